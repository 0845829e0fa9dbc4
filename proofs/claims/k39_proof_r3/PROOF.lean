import PyProof.Rows.All
import Wide.All
import OpenK.AllK
import Wide.FinOn
import Lean
import PyProof.EqAt
import PyProof.EqKinds
import PyProof.TupleCall
import PySem.Challenge.RW_chairclans_k39_desk_shows
set_option maxHeartbeats 4000000
set_option maxHeartbeats 4000000
noncomputable section
section
set_option Elab.async false
set_option linter.all false
set_option maxRecDepth 100000
namespace L2
open PySem PySem.Spec PyProof.Rows
abbrev Key:=Sum Int Str
def ZP:Key→Value→Bool
  | .inl k,v=>Value.isInt k v
  | .inr x,v=>Value.isStrOf x v
def keyH (w:World):Key→Int
  | .inl k=>hashInt k
  | .inr x=>hashStr w x
theorem Jc:∀ {k:Key} {v:Value},ZP k v=true→(∃ i t,k=Sum.inl i∧v=Value.int i t)∨(∃ x t,k=Sum.inr x∧v=Value.str x t)
  | .inl i, v, h => by
    obtain⟨t,e⟩:=Value.isInt_shape (k:=i) (v:=v) h;exact .inl ⟨i,t,rfl,e⟩
  | .inr x, v, h => by
    obtain⟨t,e⟩:=Value.isStrOf_shape (x:=x) (v:=v) h;exact .inr ⟨x,t,rfl,e⟩
theorem zns (i:Int) (t:Tok):ZP (.inl i) (.int i t)=true:=by simp [ZP,Value.isInt]
theorem znd (x:Str) (t:Tok):ZP (.inr x) (.str x t)=true:=by simp [ZP,Value.isStrOf]
theorem zja (a b:Int):decide ((Sum.inl a:Key)=Sum.inl b)=(a==b):=by
  by_cases e:a=b
  · subst e;simp
  · have h:¬(Sum.inl a:Key)=Sum.inl b:=fun q=>e (Sum.inl.inj q)
    rw [decide_eq_false h];exact(beq_eq_false_iff_ne.mpr e).symm
theorem zjp (a b:Str):decide ((Sum.inr a:Key)=Sum.inr b)=decide (a=b):=by
  by_cases e:a=b
  · subst e;simp
  · have h:¬(Sum.inr a:Key)=Sum.inr b:=fun q=>e (Sum.inr.inj q)
    rw [decide_eq_false h,decide_eq_false e]
theorem zn9 (a:Int) (b:Str):decide ((Sum.inl a:Key)=Sum.inr b)=false:=decide_eq_false (fun q=>nomatch q)
theorem zmv (a:Str) (b:Int):decide ((Sum.inr a:Key)=Sum.inl b)=false:=decide_eq_false (fun q=>nomatch q)
def jh (prog:Program) (w:World):PySem.KeyKind prog w Key where
  is:=ZP
  hash:=keyH w
  inj:=fun v a b ha hb=>by
    rcases Jc ha with ⟨i,t,rfl,rfl⟩|⟨x,t,rfl,rfl⟩
    · rcases Jc hb with ⟨j,u,rfl,e⟩|⟨y,u,rfl,e⟩
      · injection e with e1 _;rw [e1]
      · exact nomatch e
    · rcases Jc hb with ⟨j,u,rfl,e⟩|⟨y,u,rfl,e⟩
      · exact nomatch e
      · injection e with e1 _;rw [e1]
  byValue:=fun k v h=>by
    rcases Jc h with ⟨i,t,rfl,rfl⟩|⟨x,t,rfl,rfl⟩<;>rfl
  pyHash:=fun hv h=>by
    rcases Jc hv with ⟨i,t,rfl,rfl⟩|⟨x,t,rfl,rfl⟩
    · exact wpAny_pyHash_int h
    · exact wpAny_pyHash_str h
  eqBool:=fun hu hv h=>by
    rcases Jc hu with ⟨i,t,rfl,rfl⟩|⟨x,t,rfl,rfl⟩
    · rcases Jc hv with ⟨j,u,rfl,rfl⟩|⟨y,u,rfl,rfl⟩
      · rw [zja] at h;exact wpAny_eqBool_int h
      · rw [zn9] at h;exact SeqAt.EqAt.int_str i t y u _ _ _ _ h
    · rcases Jc hv with ⟨j,u,rfl,rfl⟩|⟨y,u,rfl,rfl⟩
      · rw [zmv] at h;exact SeqAt.EqAt.str_int x t j u _ _ _ _ h
      · rw [zjp] at h;exact wpAny_eqBool_str h
  «strs»:=fun k x t v h=>by
    rcases Jc h with ⟨i,u,rfl,e⟩|⟨y,u,rfl,e⟩
    · exact nomatch e
    · injection e with e1 _
      subst e1;cases v<;>rfl
theorem zkV (prog:Program) (w:World) (i:Int) (t:Tok):(jh prog w).is (.inl i) (.int i t)=true:=zns i t
theorem zkr (prog:Program) (w:World) (x:Str) (t:Tok):(jh prog w).is (.inr x) (.str x t)=true:=znd x t
inductive V where
  | non|bl (b:Bool)|int (i:Int)|str (x:Str)|byt (b:Array UInt8)|flt (b:UInt64)|ref (a:Addr)|ty (n:String)
  deriving DecidableEq
def RelV:V→Value→Prop
  | .non,u=>u=Value.none
  | .bl b,u=>u=Value.bool b
  | .int i,u=>∃ t,u=Value.int i t
  | .str x,u=>∃ t,u=Value.str x t
  | .byt b,u=>∃ t,u=Value.bytes b t
  | .flt b,u=>∃ t,u=Value.float b t
  | .ref a,u=>u=Value.ref a
  | .ty n,u=>u=Value.type n
abbrev Vals:List V→List Value→Prop:=Paired RelV
theorem Vals.length {xs:List V} {us:List Value} (r:Vals xs us):xs.length=us.length:=Paired.length r
theorem Vals.get:∀ {xs:List V} {us:List Value} {i:Nat} {x:V},Vals xs us→xs[i]?=some x→∃ u,us[i]?=some u∧RelV x u
  | _,_,_,_,.nil,e=>by simp at e
  | _,_,0,_,.cons r _,e=>by simp at e;subst e;exact⟨_,rfl,r⟩
  | _, _, i + 1, x, .cons _ t, e => by
    obtain⟨u,h1,h2⟩:=Vals.get (i:=i) (x:=x) t (by simpa using e)
    exact⟨u,by simpa using h1,h2⟩
theorem Vals.set {x:V} {u:Value} (r:RelV x u):∀ {xs:List V} {us:List Value} (i:Nat),Vals xs us→Vals (xs.set i x) (us.set i u)
  | _,_,_,.nil=>.nil
  | _,_,0,.cons _ t=>.cons r t
  | _,_,i+1,.cons q t=>.cons q (Vals.set r i t)
theorem Vals.append:∀ {xs ys:List V} {us ws:List Value},Vals xs us→Vals ys ws→Vals (xs++ys) (us++ws)
  | _,_,_,_,.nil,s=>s
  | _,_,_,_,.cons r t,s=>.cons r (Vals.append t s)
theorem Vals.take:∀ {xs:List V} {us:List Value} (n:Nat),Vals xs us→Vals (xs.take n) (us.take n)
  | _,_,0,_=>.nil
  | _,_,_+1,.nil=>.nil
  | _,_,n+1,.cons r t=>.cons r (Vals.take n t)
theorem Vals.drop:∀ {xs:List V} {us:List Value} (n:Nat),Vals xs us→Vals (xs.drop n) (us.drop n)
  | _,_,0,r=>r
  | _,_,_+1,.nil=>.nil
  | _,_,n+1,.cons _ t=>Vals.drop n t
def RelO:Option V→Option Value→Prop
  | some v,some u=>RelV v u
  | none,none=>True
  | _,_=>False
def KV {κ : Type}:List (κ×V)→List (κ×Value)→Prop:=Paired fun(p:κ×V) (q:κ×Value)=>p.1=q.1∧RelV p.2 q.2
def kV:Key→V
  | .inl i=>.int i
  | .inr x=>.str x
inductive HO where
  | lst (xs:List V)
  | tup (xs:List V)
  | dK (kvs:List (Key×V))|dT (kvs:List (List Key×V))
  | set (S:Int→Bool) (n:Nat)
  | ins (C dx:Addr) (fs:List (Str×V))
  | own (x:Addr)
  | xd (fs:List (Str×V))
  | met (f x:Addr)
  | rng (lo hi:Int)
  | frz (o:Obj) (u:HO)
  | tbl (ps:Array Value)
  | ext (φ : Heap→Prop)
abbrev Hp:=Addr→Option HO
def upd (H:Hp) (a:Addr) (o:HO):Hp:=fun b=>if b=a then some o else H b
theorem zh {H:Hp} {a:Addr} {o:HO}:upd H a o a=some o:=by unfold upd;rw [if_pos rfl]
theorem zd {H:Hp} {a b:Addr} {o:HO} (h:b≠a):upd H a o b=H b:=by unfold upd;rw [if_neg h]
theorem zbT {H:Hp} {a:Addr} {o u:HO}:upd (upd H a o) a u=upd H a u:=by
  funext b;unfold upd;split<;>rfl
theorem zou {H:Hp} {a b:Addr} {o u:HO} (h:H a=some o) (h':H b=some u) (d:o≠u):a≠b:=by
  intro e;subst e;rw [h] at h';exact d (Option.some.inj h')
theorem zG {H:Hp} {a b:Addr} {o:HO} (h:H a=some o) (h':H b=none):a≠b:=by
  intro e;subst e;rw [h] at h';cases h'
section
variable (P:Program) (w:World)
def zK (H:Hp) (h:Heap) (a:Addr):HO→Prop
  | .lst xs=>xs.length≤sizeLine∧∃ (its:List Value) (n:Nat),Vals xs its∧h.get? a=some { cls:=.type "list", data:=.seq its.toArray n }
  | .tup xs=>xs.length≤sizeLine∧∃ its:List Value,Vals xs its∧IsTup h a its.toArray
  | .dK kvs=>kvs.length≤sizeLine∧(a==sysModules)=false∧∃ vs,KV kvs vs∧h.DictOf (jh P w) a vs
  | .dT kvs => kvs.length ≤ sizeLine ∧ (a == sysModules) = false ∧ ∃ xs : List (List Key × Addr × Value),
      Paired (fun(p:List Key×V) (q:List Key×Addr×Value)=>p.1=q.1∧H q.2.1=some (.tup (p.1.map kV))∧RelV p.2 q.2.2) kvs xs∧
      ∃ o es ep,h.get? a=some o∧o.ExactDict∧o.data=.dict es ep∧es.toList=xs.map (entryOfKey (tupleKind (jh P w)))∧(xs.map (·.1)).Nodup
  | .set S n=>h.SetOf (intKind P w) a S n
  | .ins C dx fs => H dx = some (.own a) ∧ fs.length ≤ 1000 ∧ dx ≠ a ∧ h.get? a = some (PySem.W.instObj C dx) ∧
      ∃ mA,h.Ns1 dx mA∧(∀ f,RelO (fs.lookup f) (mA f))∧PySem.Within mA (fs.map (·.1))
  | .own _=>∃ o,h.get? a=some o
  | .xd fs=>∃ mA,h.Ns1 a mA∧∀ f,RelO (fs.lookup f) (mA f)
  | .rng lo hi=>∃ t u v,h.get? a=some { cls:=.type "range", data:=.fields #[.int lo t,.int hi u,.int 1 v] }
  | .frz o u=>h.get? a=some o∧zK H h a u
  | .tbl ps=>h.get? a=some { cls:=.none,data:=.fields ps }
  | .met f x=>h.get? a=some (PySem.W.methodObj (.ref f) (.ref x))
  | .ext φ=>φ h∧(∃ o,h.get? a=some o)∧∀ h1 h2:Heap,φ h1→(∀ o,h1.get? a=some o→h2.get? a=some o)→φ h2
def HOk (H:Hp) (h:Heap):Prop:=∀ a o,H a=some o→zK P w H h a o
end
section
variable {P:Program} {w:World} {H H':Hp} {h h':Heap} {a:Addr} {o:HO}
theorem zK.lt (x:zK P w H h a o):a<h.objs.size:=by
  cases o with
  | lst xs=>obtain⟨_,_,_,_,e⟩:=x;exact Heap.lt_size e
  | tup xs=>obtain⟨_,_,_,p⟩:=x;exact p.lt
  | dK kvs=>obtain⟨_,_,_,_,o,_,_,e,_⟩:=x;exact Heap.lt_size e
  | dT kvs=>obtain⟨_,_,_,_,o,_,_,e,_⟩:=x;exact Heap.lt_size e
  | set S n=>obtain⟨o,_,_,_,e,_⟩:=x;exact Heap.lt_size e
  | ins C dx fs=>obtain⟨_,_,_,e,_⟩:=x;exact Heap.lt_size e
  | own y=>obtain⟨_,e⟩:=x;exact Heap.lt_size e
  | xd fs=>obtain⟨_,⟨_,_,_,e,_⟩,_⟩:=x;exact Heap.lt_size e
  | rng lo hi=>obtain⟨_,_,_,e⟩:=x;exact Heap.lt_size e
  | frz ob u=>obtain⟨e,_⟩:=x;exact Heap.lt_size e
  | tbl ps=>exact Heap.lt_size (show h.get? a=some _ from x)
  | met f y=>exact Heap.lt_size (show h.get? a=some _ from x)
  | ext φ=>obtain⟨_,⟨_,e⟩,_⟩:=x;exact Heap.lt_size e
theorem Paired.mapP {α β : Type} {F G:α→β→Prop}:∀ {l₁ : List α} {l₂ : List β},Paired F l₁ l₂→(∀ a b,F a b→G a b)→Paired G l₁ l₂
  | _,_,.nil,_=>.nil
  | _,_,.cons r t,f=>.cons (f _ _ r) (Paired.mapP t f)
theorem zK.stay (x:zK P w H h a o) (k:∀ b u,(b=a∨H b=some (.own a))→h.get? b=some u→h'.get? b=some u)
    (ho:∀ b,H b=some (.own a)→H' b=some (.own a)) (ht:∀ b xs,H b=some (.tup xs)→H' b=some (.tup xs)):zK P w H' h' a o:=by
  induction o with
  | lst xs=>obtain⟨z,its,n,r,e⟩:=x;exact⟨z,its,n,r,k _ _ (.inl rfl) e⟩
  | tup xs=>obtain⟨z,its,r,ob,e,c⟩:=x;exact⟨z,its,r,ob,k _ _ (.inl rfl) e,c⟩
  | dK kvs=>obtain⟨z,y,vs,r,ob,es,ep,e,c⟩:=x;exact⟨z,y,vs,r,ob,es,ep,k _ _ (.inl rfl) e,c⟩
  | dT kvs=>
    obtain⟨z,y,xs,r,ob,es,ep,e,c⟩:=x;exact⟨z,y,xs,Paired.mapP r fun p q z=>⟨z.1,ht _ _ z.2.1,z.2.2⟩,ob,es,ep,k _ _ (.inl rfl) e,c⟩
  | set S n=>obtain⟨ob,es,ep,t,e,c⟩:=x;exact⟨ob,es,ep,t,k _ _ (.inl rfl) e,c⟩
  | ins C dx fs=>
    obtain⟨d,z,ne,e,mA,⟨od,es,ep,e2,c⟩,r⟩:=x;exact⟨ho _ d,z,ne,k _ _ (.inl rfl) e,mA,⟨od,es,ep,k _ _ (.inr d) e2,c⟩,r⟩
  | own y=>obtain⟨ob,e⟩:=x;exact⟨ob,k _ _ (.inl rfl) e⟩
  | xd fs=>obtain⟨mA,⟨od,es,ep,e,c⟩,r⟩:=x;exact⟨mA,⟨od,es,ep,k _ _ (.inl rfl) e,c⟩,r⟩
  | rng lo hi=>obtain⟨t,u,v,e⟩:=x;exact⟨t,u,v,k _ _ (.inl rfl) e⟩
  | frz ob u ih=>obtain⟨e,q⟩:=x;exact⟨k _ _ (.inl rfl) e,ih q⟩
  | tbl ps=>
    have e:h.get? a=some { cls:=.none,data:=.fields ps }:=x;show h'.get? a=some { cls:=.none,data:=.fields ps };exact k a _ (.inl rfl) e
  | met f y=>
    have e:h.get? a=some (PySem.W.methodObj (.ref f) (.ref y)):=x;show h'.get? a=some (PySem.W.methodObj (.ref f) (.ref y));exact k a _ (.inl rfl) e
  | ext φ=>obtain⟨p,⟨o,e⟩,st⟩:=x;exact⟨st _ _ p fun o q=>k _ _ (.inl rfl) q,⟨o,k _ _ (.inl rfl) e⟩,st⟩
theorem HOk.lt (x:HOk P w H h) (e:H a=some o):a<h.objs.size:=(x a o e).lt
theorem HOk.fresh (x:HOk P w H h) (e:h.objs.size≤a):H a=none:=by
  cases q:H a with
  | none=>rfl
  | some u=>exact absurd (Nat.lt_of_lt_of_le (x.lt q) e) (Nat.lt_irrefl _)
theorem HOk.kept (x:HOk P w H h) (k:∀ b u,h.get? b=some u→h'.get? b=some u):HOk P w H h':=fun a o e=>
  (x a o e).stay (fun b u _ q=>k b u q) (fun _ q=>q) fun _ _ q=>q
theorem HOk.laid (x:HOk P w H h) (k:∀ b u,h.get? b=some u→h'.get? b=some u) (hp:h.objs.size≤a) (new:zK P w (upd H a o) h' a o):HOk P w (upd H a o) h':=fun b u e=>by
  have hn:=x.fresh hp
  by_cases hb:b=a
  · subst hb;rw [zh] at e;cases e;exact new
  · rw [zd hb] at e
    exact(x b u e).stay (fun c v _ q=>k c v q) (fun c q=>by rw [zd (zG q hn)];exact q) fun c xs q=>by rw [zd (zG q hn)];exact q
end
def Rd (H:Hp) (a:Addr) (u:HO):Prop:=H a=some u∨∃ o,H a=some (.frz o u)
theorem Rd.of {H:Hp} {a:Addr} {u:HO} (h:H a=some u):Rd H a u:=.inl h
theorem Rd.ok {P:Program} {w:World} {H:Hp} {h:Heap} {a:Addr} {u:HO} (r:Rd H a u) (x:HOk P w H h):zK P w H h a u:=by
  rcases r with r|⟨o,r⟩
  · exact x a u r
  · obtain⟨_,q⟩:=x a _ r
    exact q
def Mut:Option HO→Prop
  | some (.lst _)=>True
  | some (.dK _)=>True
  | some (.dT _)=>True
  | some (.set _ _)=>True
  | some (.ins _ _ _)=>True
  | some (.ext _)=>True
  | _=>False
section
variable {P:Program} {w:World} {H:Hp} {h h':Heap} {x e:Addr} {o':HO}
theorem HOk.write (ok:HOk P w H h) (mu:Mut (H x)) (he:e=x∨H e=some (.own x)) (k:∀ b u,b≠e→h.get? b=some u→h'.get? b=some u) (heo:∃ u,h'.get? e=some u)
    (new:zK P w (upd H x o') h' x o'):HOk P w (upd H x o') h':=fun b u q=>by
  have nown:∀ c y,H c=some (.own y)→c≠x:=fun c y r z=>by subst z;rw [r] at mu;exact mu
  have ntup:∀ c xs,H c=some (.tup xs)→c≠x:=fun c xs r z=>by subst z;rw [r] at mu;exact mu
  by_cases hb:b=x
  · subst hb;rw [zh] at q;cases q;exact new
  · rw [zd hb] at q
    by_cases hbe:b=e
    · have q':H b=some (.own x):=by
        rcases he with z|z
        · exact absurd (hbe.trans z) hb
        · rw [hbe];exact z
      rw [q] at q';cases q';obtain⟨v,hv⟩:=heo;exact⟨v,by rw [hbe];exact hv⟩
    · refine(ok b u q).stay (fun c v hc r=>k c v ?_ r) (fun c r=>by rw [zd (nown c b r)];exact r) fun c xs r=>by rw [zd (ntup c xs r)];exact r
      rcases hc with rfl|hc
      · exact hbe
      · rintro rfl
        rcases he with z|z
        · exact nown c b hc z
        · rw [hc] at z;cases z;exact hb rfl
end
structure Un (fs ex:List Addr) (H H':Hp) (h h':Heap):Prop where
  keep:∀ b o,h.get? b=some o→H b=none→b∉fs→b∉ex→h'.get? b=some o
  slot:∀ b o,h.get? b=some o→H b=none→b∈fs→b∉ex→∃ sl,h'.get? b=some { o with slots:=sl }
  free:∀ b o,h.get? b=some o→H b=none→b∉ex→H' b=none
  there:∀ b o,h.get? b=some o→b∉ex→∃ o',h'.get? b=some o'
  tups:∀ b xs,H b=some (.tup xs)→H' b=some (.tup xs)
  frzs:∀ b o u,H b=some (.frz o u)→H' b=some (.frz o u)
  tbls:∀ b ps,H b=some (.tbl ps)→∃ more,H' b=some (.tbl (ps++more))
section
variable {fs fs' ex ex':List Addr} {H H1 H2:Hp} {h h1 h2 h':Heap} {a x e:Addr} {o:HO}
theorem Un.any (u:Un fs ex H H1 h h1) {b:Addr} {ob:Obj} (q:h.get? b=some ob) (n:H b=none) (hx:b∉ex):∃ sl,h1.get? b=some { ob with slots:=sl }:=by
  by_cases hb:b∈fs
  · exact u.slot b ob q n hb hx
  · exact⟨ob.slots,u.keep b ob q n hb hx⟩
theorem Un.kept (k:∀ b u,h.get? b=some u→h'.get? b=some u):Un fs ex H H h h':=
  ⟨fun b ob q _ _ _=>k b ob q,fun b ob q _ _ _=>⟨ob.slots,k b ob q⟩,fun _ _ _ n _=>n,fun b ob q _=>⟨ob,k b ob q⟩,fun _ _ q=>q,fun _ _ _ q=>q,fun _ ps q=>⟨#[],by rw [q];simp⟩⟩
theorem Un.refl:Un fs ex H H h h:=Un.kept fun _ _ q=>q
theorem Un.laid (k:∀ b u,h.get? b=some u→h'.get? b=some u) (hp:h.objs.size≤a) (hn:H a=none):Un fs ex H (upd H a o) h h' where
  keep:=fun b u q _ _ _=>k b u q
  slot:=fun b u q _ _ _=>⟨u.slots,k b u q⟩
  free:=fun b u q n _=>by rw [zd (Nat.ne_of_lt (Nat.lt_of_lt_of_le (Heap.lt_size q) hp))];exact n
  there:=fun b u q _=>⟨u,k b u q⟩
  tups:=fun b xs q=>by rw [zd (zG q hn)];exact q
  frzs:=fun b u xs q=>by rw [zd (zG q hn)];exact q
  tbls:=fun b ps q=>⟨#[],by rw [zd (zG q hn),q];simp⟩
theorem Un.write (mu:Mut (H x)) (he:e=x∨H e=some (.own x)) (k:∀ b u,b≠e→h.get? b=some u→h'.get? b=some u) (heo:∃ u,h'.get? e=some u):Un fs ex H (upd H x o) h h':=by
  have hx:∀ b,H b=none→b≠x:=fun b n z=>by subst z;rw [n] at mu;exact mu
  have hb:∀ b,H b=none→b≠e:=fun b n z=>by
    subst z
    rcases he with r|r
    · exact hx b n r
    · rw [n] at r;cases r
  have hm:∀ b u,H b=some u→¬Mut (some u)→b≠x:=fun b u q nm z=>by subst z;rw [q] at mu;exact nm mu
  refine⟨fun b u q n _ _=>k b u (hb b n) q,fun b u q n _ _=>⟨u.slots,k b u (hb b n) q⟩,fun b u q n _=>by rw [zd (hx b n)];exact n,fun b u q _=>?_,
    fun b xs q=>by rw [zd (hm b _ q fun z=>z)];exact q,fun b u xs q=>by rw [zd (hm b _ q fun z=>z)];exact q,fun b ps q=>⟨#[],by rw [zd (hm b _ q fun z=>z),q];simp⟩⟩
  by_cases hbe:b=e
  · subst hbe;exact heo
  · exact⟨u,k b u hbe q⟩
theorem Un.mono (u:Un fs ex H H1 h h1) (hs:∀ b∈fs,b∈fs') (hx:∀ b∈ex,b∈ex'):Un fs' ex' H H1 h h1:=
  ⟨fun b ob q n hb he=>u.keep b ob q n (fun z=>hb (hs b z)) fun z=>he (hx b z),fun _ _ q n _ he=>u.any q n fun z=>he (hx _ z),fun b ob q n he=>u.free b ob q n fun z=>he (hx b z),fun b ob q he=>u.there b ob q fun z=>he (hx b z),u.tups,u.frzs,u.tbls⟩
end
def trk (h:Heap) (H:Hp):List Addr:=(List.range h.objs.size).filter fun a=>(H a).isSome
def hidT (h:Heap) (H:Hp):Heap:=PySem.W.hideAll h (trk h H)
theorem zlR (h:Heap) (H:Hp):(hidT h H).objs.size=h.objs.size:=PySem.W.hideAll_size _ _
theorem zh1 {h:Heap} {H:Hp} {b:Addr} {o:Obj} (e:h.get? b=some o) (n:H b=none):(hidT h H).get? b=some o:=
  PySem.W.hideAll_get _ e fun hm=>by
    have q:(H b).isSome=true:=(List.mem_filter.mp hm).2;rw [n] at q;simp at q
theorem zlH {h:Heap} {H:Hp} {b:Addr} {o:Obj} (e:(hidT h H).get? b=some o):h.get? b=some o∧H b=none:=by
  have e':h.get? b=some o:=PySem.W.of_hideAll (trk h H) e;refine⟨e',?_⟩;cases q:H b with
  | none=>rfl
  | some x=>
    have hm:b∈trk h H:=List.mem_filter.mpr ⟨List.mem_range.mpr (Heap.lt_size e'),by simp [q]⟩
    have z:(hidT h H).get? b=none:=PySem.W.hideAll_none (trk h H) hm;rw [z] at e;cases e
def zjv (g h:Heap) (L:Addr):List (Addr×Obj):=(List.range h.objs.size).filterMap fun a=>if a=L∨(g.get? a).isSome=true then none else(h.get? a).map fun o=>(a,o)
def rest (g h:Heap) (L d:Addr):List (Addr×Obj):=(zjv g h L).filter fun p=>decide (p.1≠d)
structure Mod (K:PySem.W.Frag) (mg:Str→Option Value) (base:Heap):Prop where
  kin:K.In base
  glob:base.Ns mainGlobals mg
  blt:∃ mb,base.Ns builtinsNs mb∧∀ x:Str,x≠"__name__"→mb x=bootBuiltins x
  nolimit:base.NoLimit
structure Cx where
  prog:Program
  w:World
  K:PySem.W.Frag
  mg:Str→Option Value
  base:Heap
  A:Around
  N:List Str
  s₀ : Shared
  H₀ : Hp
  env:Env
  outer:List Env
  stack:List Env
  ex:List Addr
  fn:Str→Bool
  calm:Bool
  pn:List (Addr×Obj)
  xe:Value→Shared→Prop
def frs (l:List Env):List Addr:=l.filterMap (·.frame)
abbrev Cx.fs (X:Cx):List Addr:=frs X.outer
def Vis (sc:Scope) (x:Str):Prop:=sc.names.lookup x=some .local∨sc.names.lookup x=some .cell∨sc.names.lookup x=some .free
def Loc (sc:Scope) (x:Str):Prop:=sc.names.lookup x=some .local∨sc.names.lookup x=some .cell
def Look (env:Env) (h:Heap) (m:Str→Option Value) (x:Str) (u:Value):Prop:=
  (env.kindOf x=some .local∧m x=some u)∨((env.kindOf x=some .cell∨env.kindOf x=some .free)∧∃ c,env.cells.lookup x=some c∧h.IsCell c (some u))
structure Cx.Ok (X:Cx):Prop where
  mod:Mod X.K X.mg X.base
  kind:X.env.scope.kind=.function
  glob:X.env.globals=mainGlobals
  blt:X.env.builtins=builtinsNs
  above:X.s₀.heap.objs.size≤X.env.locals
  inj:∀ x y c,X.env.cells.lookup x=some c→X.env.cells.lookup y=some c→x=y
  has:∀ x,(X.env.kindOf x=some .cell∨X.env.kindOf x=some .free)→∃ c,X.env.cells.lookup x=some c
  cab:∀ x c,X.fn x=true→X.env.cells.lookup x=some c→X.s₀.heap.objs.size≤c
  hd:X.calm=true→X.A.handled=none
  frames:X.A.frames=some X.stack
  stk:X.stack=X.outer∨(X.stack=X.env::X.outer∧X.env.frame=some X.env.locals)
  exf:∀ b∈X.ex,b≠X.env.locals∧∀ x c,X.env.cells.lookup x=some c→c≠b
  bs:∀ b o,X.base.get? b=some o→X.s₀.heap.get? b=some o∧X.H₀ b=none
  bsz:X.base.objs.size≤X.s₀.heap.objs.size
  noex:∀ b o,X.base.get? b=some o→b∉X.ex
  exfs:∀ b∈X.ex,b∉X.fs
  funs:X.s₀.heap.FunFrames X.base X.outer
  frf:∀ b∈X.fs,X.H₀ b=none
structure Inv (X:Cx) (pins:List (Addr×Obj)) (σ : List (Option V)) (H:Hp) (s:Shared):Prop where
  ok:X.Ok
  os:s.os=X.s₀.os
  bare:AllBare s.gens
  base:Un X.fs X.ex X.H₀ H X.s₀.heap s.heap
  loc:∃ m,s.heap.Ns X.env.locals m∧∀ (i:Nat) (x:Str) (v:V),X.N[i]?=some x→σ[i]?=some (some v)→Vis X.env.scope x→∃ u,RelV v u∧Look X.env s.heap m x u
  cell:∀ x c,X.env.cells.lookup x=some c→∃ v,s.heap.IsCell c v
  free:H X.env.locals=none
  freeC:∀ x c,X.env.cells.lookup x=some c→H c=none
  pin:∀ p∈X.pn++pins,s.heap.get? p.1=some p.2∧H p.1=none∧p.1≠X.env.locals∧p.1∉X.fs∧∀ v,p.2.data≠.cell v
  hok:HOk X.prog X.w H s.heap
  len:σ.length=X.N.length
section
variable {X:Cx} {pins:List (Addr×Obj)} {σ : List (Option V)} {H H':Hp} {s:Shared} {h':Heap}
theorem Cx.Ok.nofr (ok:X.Ok) {b:Addr} {o:Obj} (e:X.base.get? b=some o):b∉X.fs:=fun hb=>by
  have:=(ok.funs.mem hb).1;rw [e] at this;cases this
theorem Inv.bs (I:Inv X pins σ H s):∀ b o,X.base.get? b=some o→s.heap.get? b=some o∧H b=none:=fun b o e=>
  ⟨I.base.keep b o (I.ok.bs b o e).1 (I.ok.bs b o e).2 (I.ok.nofr e) (I.ok.noex b o e),I.base.free b o (I.ok.bs b o e).1 (I.ok.bs b o e).2 (I.ok.noex b o e)⟩
theorem Inv.bk (I:Inv X pins σ H s):∀ b o,X.base.get? b=some o→s.heap.get? b=some o:=fun b o e=>(I.bs b o e).1
theorem Inv.mod (I:Inv X pins σ H s):Mod X.K X.mg X.base:=I.ok.mod
theorem Inv.kIn (I:Inv X pins σ H s):X.K.In s.heap:=I.ok.mod.kin.keeps I.bk
theorem Inv.nolimit (I:Inv X pins σ H s):s.heap.NoLimit:=I.ok.mod.nolimit.keeps I.bk
theorem Inv.fr (I:Inv X pins σ H s):∃ m,Fr X.base X.env.locals s.heap m:=
  let ⟨m,hn,_⟩:=I.loc
  ⟨m,hn,I.bk,Nat.le_trans I.ok.bsz I.ok.above⟩
theorem Inv.lt (I:Inv X pins σ H s):X.env.locals<s.heap.objs.size:=let ⟨_,hn,_⟩:=I.loc;hn.lt
theorem Inv.sz (I:Inv X pins σ H s):X.s₀.heap.objs.size≤s.heap.objs.size:=Nat.le_trans I.ok.above (Nat.le_of_lt I.lt)
theorem Inv.nofs (I:Inv X pins σ H s) {a:Addr} (h:s.heap.objs.size≤a):a∉X.fs:=fun hb=>by
  obtain⟨_,o,ho,_⟩:=I.ok.funs.mem hb;exact absurd (Nat.lt_of_lt_of_le (Heap.lt_size ho) (Nat.le_trans I.sz h)) (Nat.lt_irrefl _)
theorem Inv.cne (I:Inv X pins σ H s):∀ x c,X.env.cells.lookup x=some c→c≠X.env.locals:=fun x c e z=>by
  obtain⟨v,o,ho,hd⟩:=I.cell x c e;obtain⟨m,⟨o',es,ep,ho',hd',_⟩,_⟩:=I.loc;rw [z,ho'] at ho;cases ho;rw [hd'] at hd;cases hd
theorem Inv.funs (I:Inv X pins σ H s):s.heap.FunFrames X.base X.outer:=by
  have all:∀ (l:List Env),(∀ b∈frs l,b∈X.fs)→X.s₀.heap.FunFrames X.base l→s.heap.FunFrames X.base l:=by
    intro l
    induction l with
    | nil=>intro _ _;trivial
    | cons env r ih=>
      intro hs hl;obtain⟨hk,⟨L,o,hf,hn,ho,hd⟩,hr⟩:=hl;have hL:L∈X.fs:=hs L (by unfold frs;rw [List.filterMap_cons,hf];exact List.mem_cons_self)
      obtain⟨sl,e⟩:=I.base.slot L o ho (I.ok.frf L hL) hL fun z=>I.ok.exfs L z hL
      exact⟨hk,⟨L,_,hf,hn,e,hd⟩,ih (fun b hb=>hs b (by unfold frs;rw [List.filterMap_cons,hf];exact List.mem_cons_of_mem _ hb)) hr⟩
  exact all X.outer (fun _ hb=>hb) I.ok.funs
theorem Inv.stack (I:Inv X pins σ H s):s.heap.FunFrames X.base X.stack:=by
  rcases I.ok.stk with e|⟨e,hf⟩
  · rw [e];exact I.funs
  · rw [e]
    obtain⟨m,hn,_⟩:=I.loc;refine .cons (by rw [I.ok.kind];decide) hf hn ?_ I.funs
    exact Heap.get?_none_of_le (Nat.le_trans I.ok.bsz I.ok.above)
theorem Inv.stkSub (I:Inv X pins σ H s):∀ b∈frs X.stack,b∈X.env.locals::X.fs:=fun b hb=>by
  rcases I.ok.stk with e|⟨e,hf⟩
  · rw [e] at hb;exact List.mem_cons_of_mem _ hb
  · rw [e] at hb
    unfold frs at hb;rw [List.filterMap_cons,hf] at hb;exact hb
theorem Inv.stkFree (I:Inv X pins σ H s):∀ b∈frs X.stack,H b=none:=fun b hb=>by
  rcases List.mem_cons.mp (I.stkSub b hb) with e|hb
  · rw [e];exact I.free
  · obtain⟨_,o,ho,_⟩:=I.ok.funs.mem hb
    exact I.base.free b o ho (I.ok.frf b hb) fun z=>I.ok.exfs b z hb
theorem Inv.step {g':Array GenState} {t':Nat} {d':Drawn} {ch:List Addr} (I:Inv X pins σ H s)
    (hch:∀ b∈ch,(b∈X.ex∨X.s₀.heap.objs.size≤b)∧b≠X.env.locals∧(∀ x c,X.env.cells.lookup x=some c→c≠b)∧∀ p∈X.pn++pins,p.1≠b)
    (keep:∀ b o,b≠X.env.locals→b∉X.fs→b∉ch→s.heap.get? b=some o→H b=none→h'.get? b=some o)
    (slot:∀ b o,b≠X.env.locals→b∈X.fs→b∉ch→s.heap.get? b=some o→H b=none→∃ sl,h'.get? b=some { o with slots:=sl }) (free:∀ b o,b∉ch→s.heap.get? b=some o→H b=none→H' b=none)
    (there:∀ b o,b∉ch→s.heap.get? b=some o→∃ o',h'.get? b=some o')
    (tups:∀ b xs,H b=some (.tup xs)→H' b=some (.tup xs)) (frzs:∀ b o u,H b=some (.frz o u)→H' b=some (.frz o u)) (tbls:∀ b ps,H b=some (.tbl ps)→∃ more,H' b=some (.tbl (ps++more)))
    (ns:∀ m,s.heap.Ns X.env.locals m→h'.Ns X.env.locals m) (hok:HOk X.prog X.w H' h') (hg:AllBare g') :
    Inv X pins σ H' { s with heap:=h',gens:=g',drawn:=d',toks:=t' }:=by
  have neL:∀ b o,X.s₀.heap.get? b=some o→b≠X.env.locals:=fun b o e=>Nat.ne_of_lt (Nat.lt_of_lt_of_le (Heap.lt_size e) I.ok.above)
  have neC:∀ b o,X.s₀.heap.get? b=some o→b∉X.ex→b∉ch:=fun b o e hx hb=>by
    rcases(hch b hb).1 with z|z
    · exact hx z
    · exact absurd (Nat.lt_of_lt_of_le (Heap.lt_size e) z) (Nat.lt_irrefl _)
  have cellK:∀ x c,X.env.cells.lookup x=some c→∀ v,s.heap.IsCell c v→h'.IsCell c v:=fun x c e v ⟨o,ho,hd⟩=>by
    have nch:c∉ch:=fun z=>(hch c z).2.2.1 x c e rfl
    by_cases hc:c∈X.fs
    · obtain⟨sl,q⟩:=slot c o (I.cne x c e) hc nch ho (I.freeC x c e)
      exact⟨_,q,hd⟩
    · exact⟨o,keep c o (I.cne x c e) hc nch ho (I.freeC x c e),hd⟩
  refine⟨I.ok,I.os,hg,⟨fun b o e n hb hx=>?_,fun b o e n hb hx=>?_,fun b o e n hx=>?_,fun b o e hx=>?_,fun b xs e=>tups b xs (I.base.tups b xs e),fun b o xs e=>frzs b o xs (I.base.frzs b o xs e),fun b ps e=>?_⟩,?_,fun x c e=>?_,?_,fun x c e=>?_,fun p hp=>?_,hok,I.len⟩
  · exact keep b o (neL b o e) hb (neC b o e hx) (I.base.keep b o e n hb hx) (I.base.free b o e n hx)
  · obtain⟨sl,e1⟩:=I.base.slot b o e n hb hx
    obtain⟨sl',e2⟩:=slot b _ (neL b o e) hb (neC b o e hx) e1 (I.base.free b o e n hx);exact⟨sl',e2⟩
  · obtain⟨o',e1⟩:=I.base.there b o e hx
    exact free b o' (neC b o e hx) e1 (I.base.free b o e n hx)
  · obtain⟨o',e1⟩:=I.base.there b o e hx
    exact there b o' (neC b o e hx) e1
  · obtain⟨m1,e1⟩:=I.base.tbls b ps e
    obtain⟨m2,e2⟩:=tbls b _ e1;exact⟨m1++m2,by rw [e2,Array.append_assoc]⟩
  · obtain⟨m,hn,hl⟩:=I.loc
    refine⟨m,ns m hn,fun i x v e1 e2 e3=>?_⟩
    obtain⟨u,r,l⟩:=hl i x v e1 e2 e3;refine⟨u,r,?_⟩
    rcases l with l|⟨k,c,e,z⟩
    · exact .inl l
    · exact .inr ⟨k,c,e,cellK x c e _ z⟩
  · obtain⟨v,z⟩:=I.cell x c e
    exact⟨v,cellK x c e v z⟩
  · obtain⟨m,⟨o,_,_,ho,_⟩,_⟩:=I.loc
    exact free _ o (fun z=>(hch _ z).2.1 rfl) ho I.free
  · obtain⟨v,o,ho,hd⟩:=I.cell x c e
    exact free c o (fun z=>(hch c z).2.2.1 x c e rfl) ho (I.freeC x c e)
  · obtain⟨e,n,ne,nf,d⟩:=I.pin p hp
    have nch:p.1∉ch:=fun z=>(hch p.1 z).2.2.2 p hp rfl
    exact⟨keep p.1 p.2 ne nf nch e n,free p.1 p.2 nch e n,ne,nf,d⟩
theorem Inv.un {t':Nat} (I:Inv X pins σ H s) (u:Un X.fs [] H H' s.heap h') (hok:HOk X.prog X.w H' h'):Inv X pins σ H' { s with heap:=h',toks:=t' }:=by
  obtain⟨m,⟨o,es,ep,ho,r⟩,_⟩:=id I.loc;obtain⟨sl,hL⟩:=u.any ho I.free (by simp)
  exact I.step (g':=s.gens) (d':=s.drawn) (ch:=[]) (fun _ z=>nomatch z) (fun b o _ hb _ e n=>u.keep b o e n hb (by simp)) (fun b o _ hb _ e n=>u.slot b o e n hb (by simp)) (fun b o _ e n=>u.free b o e n (by simp)) (fun b o _ e=>u.there b o e (by simp)) u.tups u.frzs u.tbls (fun m' hm=>by
    obtain⟨o',es',ep',ho',r'⟩:=hm;rw [ho] at ho';cases ho';exact⟨_,es',ep',hL,r'⟩) hok I.bare
theorem Inv.call {g':Array GenState} {t':Nat} {d':Drawn} {ch:List Addr} (I:Inv X pins σ H s) (u:Un (frs X.stack) ch H H' s.heap h') (hok:HOk X.prog X.w H' h') (hg:AllBare g')
    (hch:∀ b∈ch,(b∈X.ex∨X.s₀.heap.objs.size≤b)∧b≠X.env.locals∧(∀ x c,X.env.cells.lookup x=some c→c≠b)∧∀ p∈X.pn++pins,p.1≠b) :
    Inv X pins σ H' { s with heap:=h',gens:=g',drawn:=d',toks:=t' }:=by
  obtain⟨m,⟨o,es,ep,ho,r⟩,_⟩:=id I.loc;obtain⟨sl,hL⟩:=u.any ho I.free fun z=>(hch _ z).2.1 rfl
  exact I.step (ch:=ch) hch (fun b o hL hb hc e n=>u.keep b o e n (fun z=>(List.mem_cons.mp (I.stkSub b z)).elim hL hb) hc) (fun b o _ _ hc e n=>u.any e n hc) (fun b o hc e n=>u.free b o e n hc) (fun b o hc e=>u.there b o e hc) u.tups u.frzs u.tbls (fun m' hm=>by
    obtain⟨o',es',ep',ho',r'⟩:=hm;rw [ho] at ho';cases ho';exact⟨_,es',ep',hL,r'⟩) hok hg
theorem Inv.turned {t':Nat} {it:Addr} (I:Inv X pins σ H s) (k:∀ b o,b≠it→s.heap.get? b=some o→h'.get? b=some o) (hn:H it=none) (hL:it≠X.env.locals)
    (h1:it∈X.ex∨X.s₀.heap.objs.size≤it) (h2:∀ x c,X.env.cells.lookup x=some c→c≠it) (h3:∀ p∈X.pn++pins,p.1≠it):Inv X pins σ H { s with heap:=h',toks:=t' }:=by
  have nit:∀ b u,H b=some u→b≠it:=fun b u e z=>by rw [z,hn] at e;cases e
  refine I.step (g':=s.gens) (d':=s.drawn) (ch:=[it]) (fun b hb=>?_) (fun b o _ _ hc e _=>k b o (fun z=>hc (by simp [z])) e) (fun b o _ _ hc e _=>⟨o.slots,k b o (fun z=>hc (by simp [z])) e⟩) (fun _ _ _ _ n=>n)
    (fun b o hc e=>⟨o,k b o (fun z=>hc (by simp [z])) e⟩) (fun _ _ e=>e) (fun _ _ _ e=>e) (fun b ps e=>⟨#[],by rw [e];simp⟩) (fun m hm=>?_) (fun b u e=>?_) I.bare
  · have e:b=it:=by simpa using hb
    subst e;exact⟨h1,hL,h2,h3⟩
  · obtain⟨o,es,ep,ho,r⟩:=hm
    exact⟨o,es,ep,k _ o (Ne.symm hL) ho,r⟩
  · refine(I.hok b u e).stay (fun c v hc q=>k c v ?_ q) (fun _ q=>q) fun _ _ q=>q
    rcases hc with z|z
    · rw [z];exact nit b u e
    · exact nit c _ z
theorem Inv.tok (I:Inv X pins σ H s) (t:Nat):Inv X pins σ H { s with toks:=t }:=I.un (h':=s.heap) (t':=t) Un.refl I.hok
theorem Inv.kept {t':Nat} (I:Inv X pins σ H s) (k:∀ b u,s.heap.get? b=some u→h'.get? b=some u):Inv X pins σ H { s with heap:=h',toks:=t' }:=I.un (Un.kept k) (I.hok.kept k)
theorem Inv.laid {a:Addr} {o:HO} {t':Nat} (I:Inv X pins σ H s) (k:∀ b u,s.heap.get? b=some u→h'.get? b=some u) (hp:s.heap.objs.size≤a) (new:zK X.prog X.w (upd H a o) h' a o) :
    Inv X pins σ (upd H a o) { s with heap:=h',toks:=t' }:=I.un (Un.laid k hp (I.hok.fresh hp)) (I.hok.laid k hp new)
theorem Inv.write {x e:Addr} {o:HO} {t':Nat} (I:Inv X pins σ H s) (mu:Mut (H x)) (he:e=x∨H e=some (.own x)) (k:∀ b u,b≠e→s.heap.get? b=some u→h'.get? b=some u) (heo:∃ u,h'.get? e=some u)
    (new:zK X.prog X.w (upd H x o) h' x o):Inv X pins σ (upd H x o) { s with heap:=h',toks:=t' }:=I.un (Un.write mu he k heo) (I.hok.write mu he k heo new)
theorem Inv.pins_of {pins':List (Addr×Obj)} (I:Inv X pins σ H s) (h:∀ p∈pins',s.heap.get? p.1=some p.2∧H p.1=none∧p.1≠X.env.locals∧p.1∉X.fs∧∀ v,p.2.data≠.cell v):Inv X pins' σ H s:=
  ⟨I.ok,I.os,I.bare,I.base,I.loc,I.cell,I.free,I.freeC,fun p hp=>(List.mem_append.mp hp).elim (fun z=>I.pin p (List.mem_append_left _ z)) (h p),I.hok,I.len⟩
theorem zfd {N:List Str} (hN:N.Nodup) {i j:Nat} {x:Str} (a:N[i]?=some x) (b:N[j]?=some x):i=j:=by
  obtain⟨h1,e1⟩:=List.getElem?_eq_some_iff.mp a;obtain⟨h2,e2⟩:=List.getElem?_eq_some_iff.mp b;exact(List.getElem_inj hN).mp (e1.trans e2.symm)
theorem zfQ {M:Model} {A:Around} {E:Value→Shared→Prop} {i:Nat} {x:Str} {v:V} {u:Value} {Q:Unit→Shared→Prop} (I:Inv X pins σ H s) (hN:X.N.Nodup) (hi:X.N[i]?=some x) (hx:Loc X.env.scope x) (r:RelV v u)
    (h:∀ s',Inv X pins (σ.set i (some v)) H s'→(∃ a,Heap.SameBut a s.heap s'.heap∧(a=X.env.locals∨X.env.cells.lookup x=some a))→Q () s') (hf:X.fn x=true∨X.env.scope.names.lookup x=some .local:=by first|exact .inl rfl|exact .inr rfl|assumption):wpAny M A (storeName X.env x u) Q E s:=by
  obtain⟨m,hn,hl⟩:=id I.loc;have hcls:(X.env.scope.kind==.class||(X.env.scope.kind==.module&&X.env.locals != X.env.globals))=false:=by rw [I.ok.kind];rfl
  have hiσ : i < σ.length:=by rw [I.len];exact(List.getElem?_eq_some_iff.mp hi).1
  have cne:=I.cne;have tracked:∀ {a:Addr} {h':Heap},(∃ o,s.heap.get? a=some o∧H a=none)→Heap.SameBut a s.heap h'→HOk X.prog X.w H h':=fun {a h'} ha hs b ob e=>by
    obtain⟨_,_,hfree⟩:=ha;refine(I.hok b ob e).stay (fun c w' hc q=>(hs.2 c ?_).trans q) (fun _ q=>q) fun _ _ q=>q
    rintro rfl
    rcases hc with rfl|hc
    · rw [hfree] at e;cases e
    · rw [hfree] at hc;cases hc
  rcases hx with hk|hk
  · refine wpAny_storeName_local hk hn (fun h' hn' hs=>?_) hcls
    obtain⟨oL,_,_,hoL,_⟩:=id hn;refine h _ ⟨I.ok,I.os,I.bare,⟨fun b o e n hb hx=>?_,fun b o e n hb hx=>?_,I.base.free,fun b o e hx=>?_,I.base.tups,I.base.frzs,I.base.tbls⟩,⟨_,hn',fun j y v' e1 e2 e3=>?_⟩,fun y c e=>?_,I.free,I.freeC,fun p hp=>?_,tracked ⟨oL,hoL,I.free⟩ hs,by simpa using I.len⟩ ⟨_,hs,.inl rfl⟩
    · exact(hs.2 b (Nat.ne_of_lt (Nat.lt_of_lt_of_le (Heap.lt_size e) I.ok.above))).trans (I.base.keep b o e n hb hx)
    · obtain⟨sl,e1⟩:=I.base.slot b o e n hb hx
      exact⟨sl,(hs.2 b (Nat.ne_of_lt (Nat.lt_of_lt_of_le (Heap.lt_size e) I.ok.above))).trans e1⟩
    · obtain⟨o',e1⟩:=I.base.there b o e hx
      exact⟨o',(hs.2 b (Nat.ne_of_lt (Nat.lt_of_lt_of_le (Heap.lt_size e) I.ok.above))).trans e1⟩
    · by_cases hj:j=i
      · subst hj
        rw [hi] at e1;cases e1;rw [List.getElem?_set_self hiσ] at e2;cases e2;exact⟨u,r,.inl ⟨hk,by simp⟩⟩
      · rw [List.getElem?_set_ne (Ne.symm hj)] at e2
        obtain⟨u',r',q⟩:=hl j y v' e1 e2 e3;refine⟨u',r',?_⟩
        rcases q with ⟨k,e⟩|⟨k,c,e,z⟩
        · refine .inl ⟨k,?_⟩
          have:y≠x:=fun e=>hj (zfd hN e1 (e ▸ hi))
          simp [this,e]
        · exact .inr ⟨k,c,e,z.sameBut hs (cne y c e)⟩
    · obtain⟨w',z⟩:=I.cell y c e
      exact⟨w',z.sameBut hs (cne y c e)⟩
    · obtain⟨e,n,ne,nf,d⟩:=I.pin p hp
      exact⟨(hs.2 p.1 ne).trans e,n,ne,nf,d⟩
  · have hfn:X.fn x=true:=by
      rcases hf with z|z
      · exact z
      · rw [z] at hk;cases hk
    obtain⟨c,hc⟩:=I.ok.has x (.inl hk);obtain⟨w',z⟩:=I.cell x c hc;refine wpAny_storeName_cell I.ok.kind hk hc z (fun h' hc' hs=>?_)
    obtain⟨oc,hoc,hocd⟩:=id z;refine h { s with heap:=h' } ⟨I.ok,I.os,I.bare,⟨fun b o e n hb hx=>?_,fun b o e n hb hx=>?_,I.base.free,fun b o e hx=>?_,I.base.tups,I.base.frzs,I.base.tbls⟩,⟨m,hn.sameBut hs (Ne.symm (cne x c hc)),fun j y v' e1 e2 e3=>?_⟩,fun y c' e=>?_,I.free,I.freeC,fun p hp=>?_,tracked ⟨oc,hoc,I.freeC x c hc⟩ hs,by simpa using I.len⟩ ⟨c,hs,.inr hc⟩
    · exact(hs.2 b (Nat.ne_of_lt (Nat.lt_of_lt_of_le (Heap.lt_size e) (I.ok.cab x c hfn hc)))).trans (I.base.keep b o e n hb hx)
    · obtain⟨sl,e1⟩:=I.base.slot b o e n hb hx
      exact⟨sl,(hs.2 b (Nat.ne_of_lt (Nat.lt_of_lt_of_le (Heap.lt_size e) (I.ok.cab x c hfn hc)))).trans e1⟩
    · obtain⟨o',e1⟩:=I.base.there b o e hx
      exact⟨o',(hs.2 b (Nat.ne_of_lt (Nat.lt_of_lt_of_le (Heap.lt_size e) (I.ok.cab x c hfn hc)))).trans e1⟩
    · by_cases hj:j=i
      · subst hj
        rw [hi] at e1;cases e1;rw [List.getElem?_set_self hiσ] at e2;cases e2;exact⟨u,r,.inr ⟨.inl hk,c,hc,hc'⟩⟩
      · rw [List.getElem?_set_ne (Ne.symm hj)] at e2
        obtain⟨u',r',q⟩:=hl j y v' e1 e2 e3;refine⟨u',r',?_⟩
        rcases q with q|⟨k,c',e,z'⟩
        · exact .inl q
        · refine .inr ⟨k,c',e,z'.sameBut hs ?_⟩
          rintro rfl
          exact hj (zfd hN e1 (I.ok.inj _ _ _ e hc ▸ hi))
    · by_cases hcc:c'=c
      · subst hcc;exact⟨_,hc'⟩
      · obtain⟨w2,z2⟩:=I.cell y c' e
        exact⟨w2,z2.sameBut hs hcc⟩
    · obtain⟨e,n,ne,nf,d⟩:=I.pin p hp
      refine⟨(hs.2 p.1 ?_).trans e,n,ne,nf,d⟩
      intro q;rw [q,hoc] at e;have q':oc=p.2:=Option.some.inj e;exact d w' (by rw [←q'];exact hocd)
theorem zf1 {M:Model} {A:Around} {E:Value→Shared→Prop} {i:Nat} {x:Str} {v:V} {u:Value} {Q:Unit→Shared→Prop} (I:Inv X pins σ H s) (hN:X.N.Nodup) (hi:X.N[i]?=some x) (hx:Loc X.env.scope x) (r:RelV v u)
    (h:∀ s',Inv X pins (σ.set i (some v)) H s'→Q () s') (hf:X.fn x=true∨X.env.scope.names.lookup x=some .local:=by first|exact .inl rfl|exact .inr rfl|assumption):wpAny M A (storeName X.env x u) Q E s:=
  zfQ I hN hi hx r (fun s' I' _=>h s' I') hf
theorem Inv.call' {s':Shared} {ch:List Addr} (I:Inv X pins σ H s) (ho:s'.os=s.os) (u:Un (frs X.stack) ch H H' s.heap s'.heap) (hok:HOk X.prog X.w H' s'.heap) (hg:AllBare s'.gens)
    (hch:∀ b∈ch,(b∈X.ex∨X.s₀.heap.objs.size≤b)∧b≠X.env.locals∧(∀ x c,X.env.cells.lookup x=some c→c≠b)∧∀ p∈X.pn++pins,p.1≠b):Inv X pins σ H' s':=by
  obtain⟨h',g',d',t',o'⟩:=s';have e:o'=s.os:=ho;subst e;exact I.call (g':=g') (t':=t') (d':=d') u hok hg hch
end
abbrev XK:=Value→Option Addr→Hp→Prop
abbrev St:=List (Option V)
abbrev VK:=V→Hp→Prop
abbrev TE:=St→Hp→VK→Prop
abbrev TT:=St→Hp→(Bool→Hp→Prop)→Prop
abbrev TA:=St→Hp→(List V→Hp→Prop)→Prop
structure Ends where
  nx:St→Hp→Prop
  rt:VK
  bk:St→Hp→Prop:=fun _ _=>False
  ct:St→Hp→Prop:=fun _ _=>False
abbrev TS:=Ends→St→Hp→Prop
def EP (X:Cx) (pins:List (Addr×Obj)) (σ : St) (Q:VK) (u:Value) (s':Shared):Prop:=∃ v H',Inv X pins σ H' s'∧RelV v u∧Q v H'
def TP (X:Cx) (pins:List (Addr×Obj)) (σ : St) (Q:Bool→Hp→Prop) (b:Bool) (s':Shared):Prop:=∃ H',Inv X pins σ H' s'∧Q b H'
def AP (X:Cx) (pins:List (Addr×Obj)) (σ : St) (Q:List V→Hp→Prop) (us:List Value) (s':Shared):Prop:=∃ vs H',Inv X pins σ H' s'∧Vals vs us∧Q vs H'
def SP (X:Cx) (pins:List (Addr×Obj)) (D:Ends) (f:Flow) (s':Shared):Prop:=
  match f with
  | .next=>∃ σ' H',Inv X pins σ' H' s'∧D.nx σ' H'
  | .brk=>∃ σ' H',Inv X pins σ' H' s'∧D.bk σ' H'
  | .cont=>∃ σ' H',Inv X pins σ' H' s'∧D.ct σ' H'
  | .ret u=>∃ v σ' H',Inv X pins σ' H' s'∧RelV v u∧D.rt v H'
def PE (X:Cx) (e:Expr) (t:TE):Prop:=
  ∀ (pins:List (Addr×Obj)) (s:Shared) (σ : St) (H:Hp) (Q:VK),Inv X pins σ H s→t σ H Q→wpAny (model X.prog X.w) X.A (eval e X.env) (EP X pins σ Q) X.xe s
def PT (X:Cx) (e:Expr) (t:TT):Prop:=
  ∀ (pins:List (Addr×Obj)) (s:Shared) (σ : St) (H:Hp) (Q:Bool→Hp→Prop),Inv X pins σ H s→t σ H Q→wpAny (model X.prog X.w) X.A (isTrue e X.env (eval e X.env)) (TP X pins σ Q) X.xe s
def PW (X:Cx) (e:Expr) (t:TT):Prop:=
  ∀ (whole:Sem Value) (pins:List (Addr×Obj)) (s:Shared) (σ : St) (H:Hp) (Q:Bool→Hp→Prop),Inv X pins σ H s→t σ H Q→wpAny (model X.prog X.w) X.A (isTrue e X.env whole) (TP X pins σ Q) X.xe s
theorem PW.pt {X:Cx} {e:Expr} {t:TT} (h:PW X e t):PT X e t:=h _
def PA (X:Cx) (es:List Expr) (t:TA):Prop:=
  ∀ (pos:Pos) (pins:List (Addr×Obj)) (s:Shared) (σ : St) (H:Hp) (Q:List V→Hp→Prop),Inv X pins σ H s→t σ H Q→wpAny (model X.prog X.w) X.A (spliced (backTo pos (starEach es X.env))) (AP X pins σ Q) X.xe s
def PS (X:Cx) (st:Stmt) (t:TS):Prop:=
  ∀ (pins:List (Addr×Obj)) (s:Shared) (σ : St) (H:Hp) (D:Ends),Inv X pins σ H s→t D σ H→wpAny (model X.prog X.w) X.A (exec st X.env) (SP X pins D) X.xe s
def PSs (X:Cx) (st:List Stmt) (t:TS):Prop:=
  ∀ (pins:List (Addr×Obj)) (s:Shared) (σ : St) (H:Hp) (D:Ends),Inv X pins σ H s→t D σ H→wpAny (model X.prog X.w) X.A (execs st X.env) (SP X pins D) X.xe s
theorem thn {α : Type} {t:Sem α} {Q Q':α→Shared→Prop} {M:Model} {A:Around} {E:Value→Shared→Prop} {s:Shared} (h:wpAny M A t Q E s) (hQ:∀ a s,Q a s→Q' a s):wpAny M A t Q' E s:=wpAny_mono h hQ fun _ _ x=>x
section
variable {X:Cx}
def tVar (i:Nat):TE:=fun σ H Q=>∃ v,σ[i]?=some (some v)∧Q v H
def tC (v:V):TE:=fun _ H Q=>Q v H
theorem z6 {i:Nat} {x:Str} {pos:Pos} (hN:X.N[i]?=some x) (hv:Vis X.env.scope x) (hd:(x==("__debug__" : Str))=false:=by decide) (hcd:(x==("__classdict__" : Str))=false:=by decide):PE X (.Name x pos) (tVar i):=by
  intro pins s σ H Q I h;obtain⟨v,e,h⟩:=h;obtain⟨m,hn,hl⟩:=I.loc;obtain⟨u,r,l⟩:=hl i x v hN e hv;have fin:EP X pins σ Q u s:=⟨v,H,I,r,h⟩
  rcases l with ⟨hk,hm⟩|⟨hk,c,hc,hcell⟩
  · exact wpAny_Name (wpAny_loadName_local I.ok.kind hk hn hm fin) hd
  · rcases hk with hk|hk
    · exact wpAny_Name (wpAny_loadName_cell I.ok.kind hk hc hcell fin) hd
    · exact wpAny_Name (wpAny_loadName_free I.ok.kind hk hc hcell fin hcd) hd
theorem zaD {i j pos}:PE X (.Constant (.int i) j pos) (tC (.int i)):=fun _ _ _ H _ I h=>wpAny_Constant_int ⟨.int i,H,I.tok _,⟨_,rfl⟩,h⟩
theorem zhX {b j pos}:PE X (.Constant (.bool b) j pos) (tC (.bl b)):=fun _ _ _ H _ I h=>Constant_bool ⟨.bl b,H,I,rfl,h⟩
theorem zdz {j pos}:PE X (.Constant .none j pos) (tC .non):=fun _ _ _ H _ I h=>Constant_none ⟨.non,H,I,rfl,h⟩
theorem ZK {x j pos}:PE X (.Constant (.str x) j pos) (tC (.str x)):=fun _ _ _ H _ I h=>Calls.Constant_str ⟨.str x,H,I.tok _,⟨_,rfl⟩,h⟩
def Gl (X:Cx) (x:Str):Prop:=X.env.kindOf x=some .globalImplicit
theorem ZJ {E:Value→Shared→Prop} {pins:List (Addr×Obj)} {s:Shared} {σ : St} {H:Hp} {x:Str} {u:Value} {pos:Pos} {Q:Value→Shared→Prop} (I:Inv X pins σ H s) (hg:Gl X x) (hm:X.mg x=some u) (h:Q u s)
    (hd:(x==("__debug__" : Str))=false:=by decide):wpAny (model X.prog X.w) X.A (eval (.Name x pos) X.env) Q E s:=
  Calls.Name_function_global I.ok.kind hg (Calls.loadGlobal_global (by rw [I.ok.glob];exact I.mod.glob.keeps I.bk) hm h) hd
theorem Zi {E:Value→Shared→Prop} {pins:List (Addr×Obj)} {s:Shared} {σ : St} {H:Hp} {x:Str} {u:Value} {pos:Pos} {Q:Value→Shared→Prop} (I:Inv X pins σ H s) (hg:Gl X x) (hm:X.mg x=none) (hv:bootBuiltins x=some u) (h:Q u s)
    (hn:x≠"__name__":=by decide) (hd:(x==("__debug__" : Str))=false:=by decide):wpAny (model X.prog X.w) X.A (eval (.Name x pos) X.env) Q E s:=by
  obtain⟨mb,h1,h2⟩:=I.mod.blt;exact Calls.Name_function_global I.ok.kind hg (Calls.loadGlobal_builtin (by rw [I.ok.glob];exact I.mod.glob.keeps I.bk) hm (by rw [I.ok.blt];exact h1.keeps I.bk) ((h2 x hn).trans hv) h) hd
theorem zfV {x:Str} {v:V} {u:Value} {pos:Pos} (hg:Gl X x) (hm:X.mg x=some u) (r:RelV v u) (hd:(x==("__debug__" : Str))=false:=by decide):PE X (.Name x pos) (tC v):=
  fun _ _ _ H _ I h=>ZJ I hg hm ⟨v,H,I,r,h⟩ hd
theorem zkq {x:Str} {v:V} {u:Value} {pos:Pos} (hg:Gl X x) (hm:X.mg x=none) (hv:bootBuiltins x=some u) (r:RelV v u) (hn:x≠"__name__":=by decide) (hd:(x==("__debug__" : Str))=false:=by decide):PE X (.Name x pos) (tC v):=
  fun _ _ _ H _ I h=>Zi I hg hm hv ⟨v,H,I,r,h⟩ hn hd
variable {a b:Expr} {ta tb:TE} {pos:Pos}
def PC (X:Cx) (op:CmpOp) (a b:Expr) (t:TE):Prop:=
  ∀ (pins:List (Addr×Obj)) (s:Shared) (σ : St) (H:Hp) (Q:VK),Inv X pins σ H s→t σ H Q→
    wpAny (model X.prog X.w) X.A (eval a X.env) (fun v s₁=>wpAny (model X.prog X.w) X.A (eval b X.env) (fun u s₂=>wpAny (model X.prog X.w) X.A (compareOp op v u) (EP X pins σ Q) X.xe s₂) X.xe s₁) X.xe s
theorem nobehind (b:Expr) {op:CmpOp} (h:op≠.In) (h2:op≠.NotIn):behindInMarks op b=false:=by
  have e1:(op==CmpOp.In)=false:=by cases op<;>first|rfl|exact absurd rfl h
  have e2:(op==CmpOp.NotIn)=false:=by cases op<;>first|rfl|exact absurd rfl h2
  cases b<;>simp [behindInMarks,e1,e2]
def tB (t:TE):TT:=fun σ H Q=>t σ H fun x H1=>∃ c,x=.bl c∧Q c H1
theorem zje {op:CmpOp} {t:TE} (h:PC X op a b t) (h1:behindInMarks op b=false:=by first|exact nobehind _ (by decide) (by decide)|rfl):PT X (.Compare a [op] [b] pos) (tB t):=by
  intro pins s σ H Q I hw;refine wpAny_isTrue_Compare1 (thn (h pins s σ H _ I hw) fun v s1 h1=>thn h1 fun u s2 h2=>thn h2 fun c s3 ⟨x,H1,I1,r1,q1⟩=>?_) h1
  obtain⟨d,rfl,q⟩:=q1;cases r1;exact wpAny_truthy_bool ⟨H1,I1,q⟩
theorem zfL {e:Expr} {t:TE} (h:PE X e t) (he:∀ whole,isTrue e X.env whole=(do let v ←whole;standAt e.pos;holding [v] (truthy v)):=by intro _;rfl):PT X e (tB t):=by
  intro pins s σ H Q I hw;refine isTrue_plain (thn (h pins s σ H _ I hw) fun v s1 ⟨x,H1,I1,r1,q1⟩=>?_) (he _)
  obtain⟨d,rfl,q⟩:=q1;cases r1;exact wpAny_truthy_bool ⟨H1,I1,q⟩
variable {tA tB':TT} {rest:List Expr}
def tAnd (t u:TT):TT:=fun σ H Q=>t σ H fun c H1=>if c=true then u σ H1 Q else Q false H1
def tOr (t u:TT):TT:=fun σ H Q=>t σ H fun c H1=>if c=true then Q true H1 else u σ H1 Q
def tNot (t:TT):TT:=fun σ H Q=>t σ H fun c H1=>Q (!c) H1
theorem zjX (ha:PT X a tA):PW X (.BoolOp .And [a] pos) tA:=by
  intro wh pins s σ H Q I h;refine isTrue_and (thn (ha pins s σ H Q I h) fun c s1 e=>?_)
  cases c with
  | true=>exact isTrue_and_nil e
  | false=>exact e
theorem znm (ha:PT X a tA):PW X (.BoolOp .Or [a] pos) tA:=by
  intro wh pins s σ H Q I h;refine isTrue_or (thn (ha pins s σ H Q I h) fun c s1 e=>?_)
  cases c with
  | false=>exact isTrue_or_nil e
  | true=>exact e
theorem zlO (ha:PT X a tA) (hb:PW X (.BoolOp .And (b::rest) pos) tB'):PW X (.BoolOp .And (a::b::rest) pos) (tAnd tA tB'):=by
  intro wh pins s σ H Q I h;refine isTrue_and (thn (ha pins s σ H _ I h) fun c s1 ⟨H1,I1,q1⟩=>?_)
  cases c with
  | true=>exact hb wh pins s1 σ H1 Q I1 q1
  | false=>exact⟨H1,I1,q1⟩
theorem zoD (ha:PT X a tA) (hb:PW X (.BoolOp .Or (b::rest) pos) tB'):PW X (.BoolOp .Or (a::b::rest) pos) (tOr tA tB'):=by
  intro wh pins s σ H Q I h;refine isTrue_or (thn (ha pins s σ H _ I h) fun c s1 ⟨H1,I1,q1⟩=>?_)
  cases c with
  | true=>exact⟨H1,I1,q1⟩
  | false=>exact hb wh pins s1 σ H1 Q I1 q1
theorem zgB (ha:PT X a tA):PT X (.UnaryOp .Not a pos) (tNot tA):=by
  intro pins s σ H Q I h;exact isTrue_not (ha pins s σ H (fun c H1=>Q (!c) H1) I h)
def zjl (ta tb:TE):TE:=fun σ H Q=>ta σ H fun x H1=>∃ c,x=.bl c∧if c=true then tb σ H1 Q else Q (.bl false) H1
def znq (ta:TE):TE:=fun σ H Q=>ta σ H fun x H1=>∃ c,x=.bl c∧Q (.bl (!c)) H1
theorem zkC {op} {t:TE} (h:PE X a t):PE X (.BoolOp op [a] pos) t:=fun pins s σ H Q I hw=>BoolOp_one (h pins s σ H Q I hw)
theorem zlu (ha:PE X a ta) (hb:PE X (.BoolOp .And (b::rest) pos) tb):PE X (.BoolOp .And (a::b::rest) pos) (zjl ta tb):=by
  intro pins s σ H Q I h;refine BoolOp_and (thn (ha pins s σ H _ I h) fun v s1 ⟨x,H1,I1,r1,q1⟩=>?_)
  obtain⟨c,rfl,q1⟩:=q1;cases r1;refine wpAny_truthy_bool ?_;cases c with
  | true=>exact hb pins s1 σ H1 Q I1 q1
  | false=>exact⟨.bl false,H1,I1,rfl,q1⟩
theorem znh (ha:PE X a ta):PE X (.UnaryOp .Not a pos) (znq ta):=by
  intro pins s σ H Q I h;refine UnaryOp_ (thn (ha pins s σ H _ I h) fun v s1 ⟨x,H1,I1,r1,q1⟩=>?_)
  obtain⟨c,rfl,q1⟩:=q1;cases r1;exact not_of (wpAny_truthy_bool ⟨.bl (!c),H1,I1,rfl,q1⟩)
end
def SqL (K:PySem.W.Frag) (H:Hp) (a:Addr) (xs:List V):Prop:=
  Rd H a (.lst xs)∨
    ∃ (o:Obj) (its:Array Value) (n:Nat),K.lookup a=some o∧o.cls=.type "list"∧o.dict=none∧o.data=.seq its n∧its.size≤sizeLine∧Vals xs its.toList
def SqT (K:PySem.W.Frag) (H:Hp) (a:Addr) (xs:List V):Prop:=
  Rd H a (.tup xs)∨
    ∃ (o:Obj) (its:Array Value) (n:Nat),K.lookup a=some o∧o.cls=.type "tuple"∧o.data=.seq its n∧its.size≤sizeLine∧Vals xs its.toList
def absV:Value→Option V
  | .none=>some .non
  | .bool b=>some (.bl b)
  | .int i _=>some (.int i)
  | .str x _=>some (.str x)
  | .bytes b _=>some (.byt b)
  | .float b _=>some (.flt b)
  | .ref a=>some (.ref a)
  | .type n=>some (.ty n)
  | _=>none
theorem RelV.abs {x:V} {u:Value} (r:RelV x u):absV u=some x:=by
  cases x with
  | non=>cases r;rfl
  | bl _=>cases r;rfl
  | int _=>obtain⟨t,rfl⟩:=r;rfl
  | str _=>obtain⟨t,rfl⟩:=r;rfl
  | byt _=>obtain⟨t,rfl⟩:=r;rfl
  | flt _=>obtain⟨t,rfl⟩:=r;rfl
  | ref _=>cases r;rfl
  | ty _=>cases r;rfl
theorem RelV.inj {x y:V} {u:Value} (r:RelV x u) (q:RelV y u):x=y:=Option.some.inj (r.abs.symm.trans q.abs)
theorem Vals.inj:∀ {xs ys:List V} {us:List Value},Vals xs us→Vals ys us→xs=ys
  | _,_,_,.nil,.nil=>rfl
  | _,_,_,.cons r t,.cons r' t'=>by rw [r.inj r',Vals.inj t t']
section
variable {X:Cx} {pins:List (Addr×Obj)} {σ : St} {H:Hp} {s:Shared} {a:Addr} {xs ys:List V}
theorem SqL.of {K:PySem.W.Frag} (h:H a=some (.lst xs)):SqL K H a xs:=.inl (.inl h)
theorem SqT.of {K:PySem.W.Frag} (h:H a=some (.tup xs)):SqT K H a xs:=.inl (.inl h)
theorem Inv.list (I:Inv X pins σ H s) (h:SqL X.K H a xs):∃ its:List Value,Vals xs its∧PlainL s.heap a its.toArray∧xs.length≤sizeLine:=by
  rcases h with h|⟨o,its,n,hk,hc,hd,hs,hz,r⟩
  · obtain⟨z,its,n,r,e⟩:=h.ok I.hok
    exact⟨its,r,⟨_,n,e,rfl,rfl,rfl⟩,z⟩
  · refine⟨its.toList,r,⟨o,n,I.kIn a o hk,hc,hd,by simpa using hs⟩,?_⟩
    have e:=r.length;simp only [Array.length_toList] at e
    omega
theorem Inv.tuple (I:Inv X pins σ H s) (h:SqT X.K H a xs):∃ its:List Value,Vals xs its∧IsTup s.heap a its.toArray∧xs.length≤sizeLine:=by
  rcases h with h|⟨o,its,n,hk,hc,hs,hz,r⟩
  · obtain⟨z,its,r,p⟩:=h.ok I.hok
    exact⟨its,r,p,z⟩
  · refine⟨its.toList,r,⟨o,I.kIn a o hk,hc,n,by simpa using hs⟩,?_⟩
    have e:=r.length;simp only [Array.length_toList] at e
    omega
theorem Inv.list_inj (I:Inv X pins σ H s) (h:SqL X.K H a xs) (h':SqL X.K H a ys):xs=ys:=by
  obtain⟨its,r,⟨o,n,e,_,_,d⟩,_⟩:=I.list h;obtain⟨its',r',⟨o',n',e',_,_,d'⟩,_⟩:=I.list h';rw [e] at e';cases e';rw [d] at d'
  injection d' with d1 _
  have:its=its':=by simpa using congrArg Array.toList d1
  subst this;exact r.inj r'
theorem Inv.tuple_inj (I:Inv X pins σ H s) (h:SqT X.K H a xs) (h':SqT X.K H a ys):xs=ys:=by
  obtain⟨its,r,⟨o,e,_,n,d⟩,_⟩:=I.tuple h;obtain⟨its',r',⟨o',e',_,n',d'⟩,_⟩:=I.tuple h';rw [e] at e';cases e';rw [d] at d'
  injection d' with d1 _
  have:its=its':=by simpa using congrArg Array.toList d1
  subst this;exact r.inj r'
end
abbrev Cx.wish (X:Cx) (E:Value→Shared→Prop):Cx:={ X with xe:=E }
abbrev Cx.nox (X:Cx):Cx:=X.wish fun _ _=>False
theorem Cx.Ok.wish {X:Cx} (ok:X.Ok) (E:Value→Shared→Prop):(X.wish E).Ok:=
  ⟨ok.mod,ok.kind,ok.glob,ok.blt,ok.above,ok.inj,ok.has,ok.cab,ok.hd,ok.frames,ok.stk,ok.exf,ok.bs,ok.bsz,ok.noex,ok.exfs,ok.funs,ok.frf⟩
theorem Cx.Ok.unwish {X:Cx} {E:Value→Shared→Prop} (ok:(X.wish E).Ok):X.Ok:=
  ⟨ok.mod,ok.kind,ok.glob,ok.blt,ok.above,ok.inj,ok.has,ok.cab,ok.hd,ok.frames,ok.stk,ok.exf,ok.bs,ok.bsz,ok.noex,ok.exfs,ok.funs,ok.frf⟩
section
variable {X:Cx} {pins:List (Addr×Obj)} {σ : St} {H:Hp} {s:Shared} {E:Value→Shared→Prop}
theorem Inv.wish (I:Inv X pins σ H s) (E:Value→Shared→Prop):Inv (X.wish E) pins σ H s:=⟨I.ok.wish E,I.os,I.bare,I.base,I.loc,I.cell,I.free,I.freeC,I.pin,I.hok,I.len⟩
theorem Inv.unwish (I:Inv (X.wish E) pins σ H s):Inv X pins σ H s:=⟨I.ok.unwish,I.os,I.bare,I.base,I.loc,I.cell,I.free,I.freeC,I.pin,I.hok,I.len⟩
theorem SP.unwish {D:Ends} {f:Flow} {s':Shared} (h:SP (X.wish E) pins D f s'):SP X pins D f s':=by
  cases f with
  | next=>obtain⟨σ',H',I,q⟩:=h;exact⟨σ',H',I.unwish,q⟩
  | brk=>obtain⟨σ',H',I,q⟩:=h;exact⟨σ',H',I.unwish,q⟩
  | cont=>obtain⟨σ',H',I,q⟩:=h;exact⟨σ',H',I.unwish,q⟩
  | ret u=>obtain⟨v,σ',H',I,r,q⟩:=h;exact⟨v,σ',H',I.unwish,r,q⟩
theorem PE.nox {e:Expr} {t:TE} (h:PE X.nox e t):PE X e t:=fun pins s σ H Q I hw=>
  wpAny_mono (h pins s σ H Q (I.wish _) hw) (fun _ _ ⟨v,H',I',r,q⟩=>⟨v,H',I'.unwish,r,q⟩) fun _ _ z=>False.elim z
theorem PT.nox {e:Expr} {t:TT} (h:PT X.nox e t):PT X e t:=fun pins s σ H Q I hw=>
  wpAny_mono (h pins s σ H Q (I.wish _) hw) (fun _ _ ⟨H',I',q⟩=>⟨H',I'.unwish,q⟩) fun _ _ z=>False.elim z
theorem PSs.nox {st:List Stmt} {t:TS} (h:PSs X.nox st t):PSs X st t:=fun pins s σ H D I hw=>
  wpAny_mono (h pins s σ H D (I.wish _) hw) (fun _ _ q=>q.unwish) fun _ _ z=>False.elim z
end
section
variable {X:Cx} {st:Stmt} {rest:List Stmt} {t u:TS} {e:Expr} {te:TE} {pos:Pos}
def tNext:TS:=fun D σ H=>D.nx σ H
def tSeq (t u:TS):TS:=fun D σ H=>t { D with nx:=u D } σ H
theorem zoT:PSs X [] tNext:=fun _ _ σ H _ I h=>wpAny_execs_nil ⟨σ,H,I,h⟩
theorem Jw (h1:PS X st t) (h2:PSs X rest u):PSs X (st::rest) (tSeq t u):=by
  intro pins s σ H D I h;refine wpAny_execs_cons (thn (h1 pins s σ H { D with nx:=u D } I h) fun f s1 q=>?_)
  cases f with
  | next=>
    obtain⟨σ',H',I',q⟩:=q;exact h2 pins s1 σ' H' D I' q
  | ret v=>exact q
  | brk=>exact q
  | cont=>exact q
theorem zby (h1:PS X st t):PSs X [st] t:=by
  intro pins s σ H D I h;refine wpAny_execs_cons (thn (h1 pins s σ H D I h) fun f s1 q=>?_)
  cases f with
  | next=>exact wpAny_execs_nil q
  | ret v=>exact q
  | brk=>exact q
  | cont=>exact q
theorem Inv.quiet {pins:List (Addr×Obj)} {σ : St} {H:Hp} {s:Shared} (I:Inv X pins σ H s):interactive X.env=false:=by simp [interactive,I.ok.kind]
def zlx (te:TE):TS:=fun D σ H=>te σ H fun _ H1=>D.nx σ H1
theorem Zr (he:PE X e te) (hs:swapsWith e none pos.line X.env=pure false:=by rfl):PS X (.Expr e pos) (zlx te):=by
  intro pins s σ H D I h;exact wpAny_Expr_any (thn (he pins s σ H _ I h) fun v s1 ⟨x,H1,I1,r1,q1⟩=>⟨σ,H1,I1,q1⟩) I.quiet hs
def tRet (te:TE):TS:=fun D σ H=>te σ H D.rt
theorem zat (he:PE X e te):PS X (.Return (some e) pos) (tRet te):=by
  intro pins s σ H D I h;exact wpAny_Return_some (thn (he pins s σ H _ I h) fun v s1 ⟨x,H1,I1,r1,q1⟩=>⟨x,σ,H1,I1,r1,q1⟩)
def tIfS (c:TT) (t u:TS):TS:=fun D σ H=>c σ H fun b H1=>if b=true then t D σ H1 else u D σ H1
theorem zgv {c:Expr} {a b:List Stmt} {tc:TT} (hc:PT X c tc) (ha:PSs X a t) (hb:PSs X b u):PS X (.If c a b pos) (tIfS tc t u):=by
  intro pins s σ H D I h;refine wpAny_If (thn (hc pins s σ H _ I h) fun d s1 ⟨H1,I1,q1⟩=>?_)
  cases d with
  | true=>exact ha pins s1 σ H1 D I1 q1
  | false=>exact hb pins s1 σ H1 D I1 q1
end
abbrev TG:=V→St→Hp→(St→Hp→Prop)→Prop
abbrev TGs:=List V→St→Hp→(St→Hp→Prop)→Prop
def PG (X:Cx) (target:Expr) (t:TG):Prop:=
  ∀ (pins:List (Addr×Obj)) (s:Shared) (σ : St) (H:Hp) (v:V) (u:Value) (Q:St→Hp→Prop),Inv X pins σ H s→RelV v u→t v σ H Q→
    wpAny (model X.prog X.w) X.A (assign target X.env u) (fun _ s'=>∃ σ' H',Inv X pins σ' H' s'∧Q σ' H') X.xe s
def PGs (X:Cx) (ts:List Expr) (t:TGs):Prop:=
  ∀ (pins:List (Addr×Obj)) (s:Shared) (σ : St) (H:Hp) (vs:List V) (us:List Value) (Q:St→Hp→Prop),Inv X pins σ H s→Vals vs us→t vs σ H Q→
    wpAny (model X.prog X.w) X.A (assignInOrder ((assignEach ts X.env).map (·.2)) us) (fun _ s'=>∃ σ' H',Inv X pins σ' H' s'∧Q σ' H') X.xe s
abbrev TSet:=V→V→V→Hp→(Hp→Prop)→Prop
def PSet (X:Cx) (t:TSet):Prop:=
  ∀ (pins:List (Addr×Obj)) (s:Shared) (σ : St) (H:Hp) (o i v:V) (ov iv u:Value) (Q:Hp→Prop),Inv X pins σ H s→RelV o ov→RelV i iv→RelV v u→t o i v H Q→
    wpAny (model X.prog X.w) X.A (setItem ov iv u) (fun _ s'=>∃ H',Inv X pins σ H' s'∧Q H') X.xe s
abbrev TIp:=V→V→Hp→VK→Prop
def PIp (X:Cx) (op:Operator) (t:TIp):Prop:=
  ∀ (pins:List (Addr×Obj)) (s:Shared) (σ : St) (H:Hp) (x y:V) (v u:Value) (Q:VK),Inv X pins σ H s→RelV x v→RelV y u→t x y H Q→
    wpAny (model X.prog X.w) X.A (inplaceOp op v u) (EP X pins σ Q) X.xe s
section
variable {X:Cx} {pos:Pos}
def zef (i:Nat):TG:=fun v σ H Q=>Q (σ.set i (some v)) H
theorem zfY {i:Nat} {x:Str} (hN:X.N.Nodup) (hi:X.N[i]?=some x) (hx:Loc X.env.scope x) (hf:X.fn x=true∨X.env.scope.names.lookup x=some .local:=by first|exact .inl rfl|exact .inr rfl|assumption):PG X (.Name x pos) (zef i):=by
  intro pins s σ H v u Q I r h;exact wpAny_assign_Name (zf1 I hN hi hx r (fun s' I'=>⟨_,H,I',h⟩) hf)
def gNil:TGs:=fun vs σ H Q=>vs=[]∧Q σ H
def ziL (t:TG) (u:TGs):TGs:=fun vs σ H Q=>∃ v r,vs=v::r∧t v σ H fun σ' H'=>u r σ' H' Q
theorem zk1:PGs X [] gNil:=by
  intro pins s σ H vs us Q I r h;obtain⟨e,h⟩:=h;subst e;cases r;exact assignInOrder_nil ⟨σ,H,I,h⟩
theorem zjN {e:Expr} {es:List Expr} {t:TG} {u:TGs} (h1:PG X e t) (h2:PGs X es u)
    (hs:(assignEach (e::es) X.env).map (·.2)=assign e X.env::(assignEach es X.env).map (·.2):=by rfl):PGs X (e::es) (ziL t u):=by
  intro pins s σ H vs us Q I r h;obtain⟨v,vr,e1,h⟩:=h;subst e1;cases r with
  | cons r rr=>
    rw [hs];refine assignInOrder_cons (thn (h1 pins s σ H _ _ _ I r h) fun _ s1 ⟨σ1,H1,I1,q1⟩=>?_)
    exact h2 pins s1 σ1 H1 _ _ Q I1 rr q1
def gTup (K:PySem.W.Frag) (n:Nat) (t:TGs):TG:=fun v σ H Q=>∃ a xs,v=.ref a∧SqT K H a xs∧xs.length=n∧t xs σ H Q
theorem zoR {es:List Expr} {k:Nat} {t:TGs} {n:Nat} (hc:X.calm=true) (h:PGs X es t)
    (hn:(assignEach es X.env).length=n:=by rfl) (hst:(assignEach es X.env).findIdx? (·.1)=none:=by rfl):PG X (.Tuple es k pos) (gTup X.K n t):=by
  intro pins s σ H v u Q I r hw;obtain⟨a,xs,e1,hq,hl,hw⟩:=hw;subst e1;cases r;obtain⟨its,rv,ht,hz⟩:=I.tuple hq;refine assign_Tuple_tuple (I.ok.hd hc) ht (by simp [hn,←hl,rv.length]) hst fun h' hx=>?_
  have I1:Inv X pins σ H { s with heap:=h' }:=I.kept (t':=s.toks) fun b o e=>hx b o (Nat.ne_of_lt (Heap.lt_size e)) e
  exact h pins _ σ H xs _ Q I1 (by simpa using rv) hw
def gSub (to ti:TE) (t:TSet):TG:=fun v σ H Q=>to σ H fun o H1=>ti σ H1 fun i H2=>t o i v H2 fun H3=>Q σ H3
theorem zcs {o i:Expr} {to ti:TE} {t:TSet} (ho:PE X o to) (hi:PE X i ti) (hs:PSet X t)
    (ha:∀ v,assign (.Subscript o i pos) X.env v=(do
      let ov ←holding [v] (eval o X.env)
      let iv ←holding [v,ov] (eval i X.env)
      standAt pos
      holding [v,ov,iv] (setItem ov iv v)
      release [v,ov,iv] []):=by intro _;rfl):PG X (.Subscript o i pos) (gSub to ti t):=by
  intro pins s σ H v u Q I r h;rw [ha];refine wpAny_bind (wpAny_holding (thn (ho pins s σ H _ I h) fun ov s1 ⟨x,H1,I1,r1,q1⟩=>?_))
  refine wpAny_bind (wpAny_holding (thn (hi pins s1 σ H1 _ I1 q1) fun iv s2 ⟨y,H2,I2,r2,q2⟩=>?_))
  refine wpAny_bind (wpAny_standAt (wpAny_bind (wpAny_holding (thn (hs pins s2 σ H2 x y v ov iv u _ I2 r1 r2 r q2) fun _ s3 ⟨H3,I3,q3⟩=>?_))))
  exact wpAny_release ⟨σ,H3,I3,q3⟩
def tAsg (te:TE) (g:TG):TS:=fun D σ H=>te σ H fun x H1=>g x σ H1 D.nx
theorem zbZ {tg e:Expr} {te:TE} {g:TG} (he:PE X e te) (hg:PG X tg g) (hs:swapsWithSole [tg] e pos.line X.env=pure false:=by rfl) (hw:swappedStores [tg] e X.env=pure none:=by rfl)
    (h1:(assignEach [tg] X.env).map (·.2)=[assign tg X.env]:=by rfl):PS X (.Assign [tg] e pos) (tAsg te g):=by
  intro pins s σ H D I h;refine wpAny_Assign_stores (thn (he pins s σ H _ I h) fun v s1 ⟨x,H1,I1,r1,q1⟩=>?_) hs hw
  rw [h1];exact thn (hg pins s1 σ H1 x v _ I1 r1 q1) fun _ s2 q=>q
theorem Zt {i:Nat} {x:Str} {e:Expr} {te:TE} {pos':Pos} (hN:X.N.Nodup) (hi:X.N[i]?=some x) (hx:Loc X.env.scope x) (he:PE X e te) (hs:swapsWith e (some (.Name x pos')) pos.line X.env=pure false:=by rfl) (hf:X.fn x=true∨X.env.scope.names.lookup x=some .local:=by first|exact .inl rfl|exact .inr rfl|assumption) :
    PS X (.Assign [.Name x pos'] e pos) (tAsg te (zef i)):=by
  intro pins s σ H D I h;refine wpAny_Assign_Name (thn (he pins s σ H _ I h) fun v s1 ⟨y,H1,I1,r1,q1⟩=>?_) hs
  exact zf1 I1 hN hi hx r1 (fun s2 I2=>⟨_,H1,I2,q1⟩) hf
def zoB (to ti te:TE) (tget:V→V→Hp→VK→Prop) (tip:TIp) (tset:TSet):TS:=fun D σ H=>to σ H fun o H1=>ti σ H1 fun i H2=>tget o i H2 fun x H3=>te σ H3 fun y H4=>tip x y H4 fun z H5=>tset o i z H5 fun H6=>D.nx σ H6
def PGet (X:Cx) (t:V→V→Hp→VK→Prop):Prop:=
  ∀ (pins:List (Addr×Obj)) (s:Shared) (σ : St) (H:Hp) (o i:V) (ov iv:Value) (Q:VK),Inv X pins σ H s→RelV o ov→RelV i iv→t o i H Q→
    wpAny (model X.prog X.w) X.A (getItem ov iv) (EP X pins σ Q) X.xe s
theorem znH {o i e:Expr} {to ti te:TE} {tget:V→V→Hp→VK→Prop} {tip:TIp} {tset:TSet} {op:Operator} {tpos:Pos} (ho:PE X o to) (hi:PE X i ti) (hg:PGet X tget) (he:PE X e te) (hp:PIp X op tip) (hs:PSet X tset)
    (ha:∀ ov iv new,augStore i ov iv new=(do holding [new,ov,iv] (setItem ov iv new);release [new,ov,iv] [];pure .next):=by intros;rfl):PS X (.AugAssign (.Subscript o i tpos) op e pos) (zoB to ti te tget tip tset):=by
  intro pins s σ H D I h;refine wpAny_AugAssign_SubscriptAny (thn (ho pins s σ H _ I h) fun ov s1 ⟨x1,H1,I1,r1,q1⟩=>?_) ha
  refine thn (hi pins s1 σ H1 _ I1 q1) fun iv s2 ⟨x2,H2,I2,r2,q2⟩=>?_
  refine thn (hg pins s2 σ H2 x1 x2 ov iv _ I2 r1 r2 q2) fun old s3 ⟨x3,H3,I3,r3,q3⟩=>?_
  refine thn (he pins s3 σ H3 _ I3 q3) fun v s4 ⟨x4,H4,I4,r4,q4⟩=>?_
  refine thn (hp pins s4 σ H4 x3 x4 old v _ I4 r3 r4 q4) fun new s5 ⟨x5,H5,I5,r5,q5⟩=>?_
  exact thn (hs pins s5 σ H5 x1 x2 x5 ov iv new _ I5 r1 r2 r5 q5) fun _ s6 ⟨H6,I6,q6⟩=>⟨σ,H6,I6,q6⟩
def ipI (f:Int→Int→Int):TIp:=fun x y H Q=>∃ i j,x=.int i∧y=.int j∧Q (.int (f i j)) H
theorem zkD:PIp X .Add (ipI fun i j=>i+j):=by
  intro pins s σ H x y v u Q I r1 r2 h;obtain⟨i,j,e1,e2,q⟩:=h;subst e1;subst e2;obtain⟨t,rfl⟩:=r1;obtain⟨t',rfl⟩:=r2;exact iadd_int ⟨.int _,H,I.tok _,⟨_,rfl⟩,q⟩
end
section
variable {X:Cx} {pos:Pos}
def zge (c:TT) (tb:TS):TS:=fun D σ H=>∃ W:Nat→St→Hp→Prop,(∃ m,W m σ H)∧∀ m σ H,W m σ H→
  c σ H fun b H1=>if b=true then ∃ N:St→Hp→Prop,(∀ σ' H',N σ' H'→∃ m',m'<m∧W m' σ' H')∧tb { D with nx:=N,ct:=N,bk:=D.nx } σ H1 else D.nx σ H1
theorem zkn {c:Expr} {body:List Stmt} {tc:TT} {tb:TS} (hp:PassesOwn (model X.prog X.w) X.A X.env X.xe) (hc:PT X c tc) (hb:PSs X body tb):PS X (.While c body [] pos) (zge tc tb):=by
  intro pins s σ H D I h;obtain⟨W,⟨m0,w0⟩,turn⟩:=h;refine wpAny_While (codeAny_whileLoop (fun n s'=>∃ σ' H',Inv X pins σ' H' s'∧W n σ' H') ?_ m0 ⟨σ,H,I,w0⟩)
  rintro n s1 ⟨σ1,H1,I1,w1⟩
  refine wpAny_passesOwn hp (thn (hc pins s1 σ1 H1 _ I1 (turn n σ1 H1 w1)) fun b s2 ⟨H2,I2,q2⟩=>?_)
  cases b with
  | true=>
    obtain⟨N,hN,q2⟩:=q2;rw [if_pos rfl];refine wpAny_passesOwn hp (thn (hb pins s2 σ1 H2 _ I2 q2) fun f s3 q3=>?_)
    cases f with
    | next=>
      obtain⟨σ3,H3,I3,n3⟩:=q3;obtain⟨m',hm,w3⟩:=hN σ3 H3 n3;exact⟨m',hm,σ3,H3,I3,w3⟩
    | cont=>
      obtain⟨σ3,H3,I3,n3⟩:=q3;obtain⟨m',hm,w3⟩:=hN σ3 H3 n3;exact⟨m',hm,σ3,H3,I3,w3⟩
    | brk=>exact q3
    | ret v=>exact q3
  | false=>
    rw [if_neg Bool.false_ne_true];exact wpAny_execs_nil ⟨σ1,H2,I2,q2⟩
end
structure It where
  go:Nat→Hp→Prop
  yld:Nat→Hp→V→Hp→Prop
  stop:Nat→Hp→Prop
def FpOk (X:Cx) (pins:List (Addr×Obj)) (H:Hp) (b:Addr):Prop:=
  H b=none∧b≠X.env.locals∧b∉X.fs∧(b∈X.ex∨X.s₀.heap.objs.size≤b)∧(∀ x c,X.env.cells.lookup x=some c→c≠b)∧∀ p∈X.pn++pins,p.1≠b
theorem Inv.fpOk {X:Cx} {pins:List (Addr×Obj)} {σ : St} {H H':Hp} {s:Shared} {b:Addr} (I:Inv X pins σ H s) (hb:s.heap.objs.size≤b) (hn:H' b=none):FpOk X pins H' b:=by
  refine⟨hn,Nat.ne_of_gt (Nat.lt_of_lt_of_le I.lt hb),I.nofs hb,.inr (Nat.le_trans I.sz hb),fun x c e z=>?_,fun p hp z=>?_⟩
  · obtain⟨v,q⟩:=I.cell x c e
    exact absurd (Nat.lt_of_lt_of_le q.lt (by rw [z];exact hb)) (Nat.lt_irrefl _)
  · exact absurd (Nat.lt_of_lt_of_le (Heap.lt_size (I.pin p hp).1) (by rw [z];exact hb)) (Nat.lt_irrefl _)
structure Turn (P:Program) (w:World) (K:PySem.W.Frag) (tg:Expr) (J:It) (fp:List Addr) (it:Addr) (tn:Nat→Heap→Prop):Prop where
  mem:it∈fp
  obj:∀ i h,tn i h→∀ b∈fp,∃ o,h.get? b=some o∧∀ v,o.data≠.cell v
  keep:∀ i h h',tn i h→(∀ b∈fp,∀ o,h.get? b=some o→h'.get? b=some o)→tn i h'
  item:∀ (X:Cx),X.prog=P→X.w=w→X.K=K→X.calm=true→∀ (i:Nat) (pins:List (Addr×Obj)) (s:Shared) (σ : St) (H:Hp) (E:Value→Shared→Prop),Inv X pins σ H s→(∀ b∈fp,FpOk X pins H b)→tn i s.heap→J.go i H→
    wpAny (model P w) X.A (pyNext (.ref it)) (fun r s1=>∃ u,r=some u∧
      wpAny (model P w) X.A (letOwnedTupleGo tg (.ref it) u) (fun _ s2=>∃ x H',Inv X pins σ H' s2∧RelV x u∧J.yld i H x H'∧tn (i+1) s2.heap∧∀ b∈fp,H' b=none) E s1) E s
  done:∀ (X:Cx),X.prog=P→X.w=w→X.K=K→X.calm=true→∀ (i:Nat) (pins:List (Addr×Obj)) (s:Shared) (σ : St) (H:Hp) (E:Value→Shared→Prop),Inv X pins σ H s→(∀ b∈fp,FpOk X pins H b)→tn i s.heap→J.stop i H→
    wpAny (model P w) X.A (pyNext (.ref it)) (fun r s1=>r=none∧Inv X pins σ H s1) E s
  self:∀ (A:Around) (i:Nat) (s:Shared) (Q:Value→Shared→Prop) (E:Value→Shared→Prop),tn i s.heap→Q (.ref it) s→wpAny (model P w) A (pyIter (.ref it)) Q E s
abbrev TI:=St→Hp→(It→Hp→Prop)→Prop
def PIE (X:Cx) (pins:List (Addr×Obj)) (σ : St) (tg:Expr) (R:It→Hp→Prop) (itv:Value) (s2:Shared):Prop:=
  ∃ (it:Addr) (fp:List Addr) (tn:Nat→Heap→Prop) (J:It) (H':Hp),itv=.ref it∧Inv X pins σ H' s2∧Turn X.prog X.w X.K tg J fp it tn∧tn 0 s2.heap∧(∀ b∈fp,FpOk X pins H' b)∧R J H'
def PI (X:Cx) (tg iter:Expr) (wi:TI):Prop:=
  ∀ (pins:List (Addr×Obj)) (s:Shared) (σ : St) (H:Hp) (R:It→Hp→Prop),Inv X pins σ H s→wi σ H R→
    wpAny (model X.prog X.w) X.A (eval iter X.env) (fun v s1=>wpAny (model X.prog X.w) X.A (pyIter v) (PIE X pins σ tg R) X.xe s1) X.xe s
theorem zdn {M:Model} {A:Around} {E:Value→Shared→Prop} {s:Shared} {tg:Expr} {it:Addr} {u:Value} {o:Obj} {n:String} {vs:Array Value} {Q:Unit→Shared→Prop} (ho:s.heap.get? it=some o) (hc:o.cls=.type n) (hd:o.data=.fields vs)
    (hn:["enumerate", "zip", "dict_itemiterator", "dict_reverseitemiterator", "odict_iterator", "itertools.zip_longest", "itertools.pairwise"].contains n=false) (hQ:Q () s):wpAny M A (letOwnedTupleGo tg (.ref it) u) Q E s:=by
  unfold letOwnedTupleGo;cases tg<;>first
    | exact wpAny_pure hQ
    | (cases u <;> first
        | exact wpAny_pure hQ
        | (refine wpAny_bind (wpAny_load ho ?_)
           rw [hc,hd];show wpAny M A (if(["enumerate", "zip", "dict_itemiterator", "dict_reverseitemiterator", "odict_iterator", "itertools.zip_longest", "itertools.pairwise"].contains n&&vs[0]? == some (rawInt _))=true then _ else _) Q E s
           rw [if_neg (by intro h;rw [hn,Bool.false_and] at h;cases h)]
           exact wpAny_pure hQ))
def Itl (K:PySem.W.Frag) (a:Addr):It:=
  ⟨fun i H=>∃ xs x,SqL K H a xs∧xs[i]?=some x,fun i H x H'=>H'=H∧∀ xs,SqL K H a xs→xs[i]?=some x,fun i H=>∃ xs,SqL K H a xs∧xs.length≤i⟩
def Itt (K:PySem.W.Frag) (a:Addr):It:=
  ⟨fun i H=>∃ xs x,SqT K H a xs∧xs[i]?=some x,fun i H x H'=>H'=H∧∀ xs,SqT K H a xs→xs[i]?=some x,fun i H=>∃ xs,SqT K H a xs∧xs.length≤i⟩
def Itr (lo:Int) (n:Nat):It:=⟨fun i _=>i<n,fun i H x H'=>H'=H∧x=.int (lo+i),fun i _=>n≤i⟩
theorem zow {P:Program} {w:World} {K:PySem.W.Frag} {tg:Expr} (a it:Addr):Turn P w K tg (Itl K a) [it] it (fun i h=>h.IsListIter it a i) where
  mem:=by simp
  obj:=fun i h st b hb=>by
    have e:b=it:=by simpa using hb
    subst e;obtain⟨o,e,c,d⟩:=st;exact⟨o,e,fun v z=>by rw [d] at z;cases z⟩
  keep:=fun i h h' st k=>st.at fun o e=>k it (by simp) o e
  item:=by
    intro X hP hw hK hc i pins s σ H E I hf st hg;subst hP hw hK;obtain⟨xs,x,hq,hx⟩:=hg;obtain⟨its,rv,p,hz⟩:=I.list hq;obtain⟨u,hu,ru⟩:=rv.get hx;obtain⟨f0,f1,f2,f3,f4,f5⟩:=hf it (by simp)
    refine wpAny_pyNext_list_item st p.isList (x:=u) (by simpa using hu) fun h' st' sb=>?_
    have I1:Inv X pins σ H { s with heap:=h' }:=I.turned (t':=s.toks) (fun b o hb e=>(sb.2 b hb).trans e) f0 f1 f3 f4 f5
    obtain⟨o,e,c,d⟩:=id st';exact⟨u,rfl,zdn (s:={ s with heap:=h' }) e c d (by decide) ⟨x,H,I1,ru,⟨rfl,fun ys hy=>by rw [I.list_inj hy hq];exact hx⟩,st',fun b hb=>(hf b hb).1⟩⟩
  done:=by
    intro X hP hw hK hc i pins s σ H E I hf st hg;subst hP hw hK;obtain⟨xs,hq,hx⟩:=hg;obtain⟨its,rv,p,hz⟩:=I.list hq;obtain⟨f0,f1,f2,f3,f4,f5⟩:=hf it (by simp)
    have hl:=rv.length;exact wpAny_pyNext_list_end (I.ok.hd hc) st p.isList (by simp;omega) fun h' eb=>⟨rfl,I.turned (t':=s.toks) (fun b o hb e=>eb b o hb e) f0 f1 f3 f4 f5⟩
  self:=fun _ _ _ _ _ st h=>wpAny_pyIter_listiter st h
theorem zmP {P:Program} {w:World} {K:PySem.W.Frag} {tg:Expr} (a it:Addr):Turn P w K tg (Itt K a) [it] it (fun i h=>h.IsTupleIter it a i) where
  mem:=by simp
  obj:=fun i h st b hb=>by
    have e:b=it:=by simpa using hb
    subst e;obtain⟨o,e,c,d⟩:=st;exact⟨o,e,fun v z=>by rw [d] at z;cases z⟩
  keep:=fun i h h' st k=>st.at fun o e=>k it (by simp) o e
  item:=by
    intro X hP hw hK hc i pins s σ H E I hf st hg;subst hP hw hK;obtain⟨xs,x,hq,hx⟩:=hg;obtain⟨its,rv,p,hz⟩:=I.tuple hq;obtain⟨u,hu,ru⟩:=rv.get hx;obtain⟨f0,f1,f2,f3,f4,f5⟩:=hf it (by simp)
    refine wpAny_pyNext_tuple_item st (show s.heap.IsTuple a its.toArray from p) (x:=u) (by simpa using hu) fun h' st' sb=>?_
    have I1:Inv X pins σ H { s with heap:=h' }:=I.turned (t':=s.toks) (fun b o hb e=>(sb.2 b hb).trans e) f0 f1 f3 f4 f5
    obtain⟨o,e,c,d⟩:=id st';exact⟨u,rfl,zdn (s:={ s with heap:=h' }) e c d (by decide) ⟨x,H,I1,ru,⟨rfl,fun ys hy=>by rw [I.tuple_inj hy hq];exact hx⟩,st',fun b hb=>(hf b hb).1⟩⟩
  done:=by
    intro X hP hw hK hc i pins s σ H E I hf st hg;subst hP hw hK;obtain⟨xs,hq,hx⟩:=hg;obtain⟨its,rv,p,hz⟩:=I.tuple hq;obtain⟨f0,f1,f2,f3,f4,f5⟩:=hf it (by simp)
    have hl:=rv.length;exact wpAny_pyNext_tuple_end (I.ok.hd hc) st (show s.heap.IsTuple a its.toArray from p) (by simp;omega) fun h' eb=>⟨rfl,I.turned (t':=s.toks) (fun b o hb e=>eb b o hb e) f0 f1 f3 f4 f5⟩
  self:=fun _ _ _ _ _ st h=>wpAny_pyIter_tupleiter st h
theorem zjb {P:Program} {w:World} {K:PySem.W.Frag} {tg:Expr} (it:Addr) (lo:Int) (n:Nat):Turn P w K tg (Itr lo n) [it] it (fun i h=>IsRangeIter h it (lo+(i:Nat)*1) ((n:Int) - (i:Nat)) 1) where
  mem:=by simp
  obj:=fun i h st b hb=>by
    have e:b=it:=by simpa using hb
    subst e;exact⟨_,st,fun v z=>by
      have z':Data.fields _=Data.cell v:=z;cases z'⟩
  keep:=fun i h h' st k=>k it (by simp) _ st
  item:=by
    intro X hP hw hK hc i pins s σ H E I hf st hg;subst hP hw hK;obtain⟨f0,f1,f2,f3,f4,f5⟩:=hf it (by simp)
    have W:=Walks.range (prog:=X.prog) (w:=X.w) (I.ok.hd hc) it lo 1 n;refine W.item i s _ _ hg st fun v h' tk hv st' kk=>?_
    obtain⟨t,rfl⟩:=hv;have I1:Inv X pins σ H { s with heap:=h',toks:=tk }:=I.turned (fun b o hb e=>kk b o (by simpa using hb) e) f0 f1 f3 f4 f5
    refine⟨_,rfl,zdn (s:={ s with heap:=h',toks:=tk }) (n:="range_iterator") st' rfl rfl (by decide) ⟨.int (lo+i),H,I1,⟨t,?_⟩,⟨rfl,rfl⟩,st',fun b hb=>(hf b hb).1⟩⟩
    rw [Int.mul_one]
  done:=by
    intro X hP hw hK hc i pins s σ H E I hf st hg;subst hP hw hK;obtain⟨f0,f1,f2,f3,f4,f5⟩:=hf it (by simp)
    exact wpAny_pyNext_range_end (I.ok.hd hc) st (by have:n≤i:=hg;omega) fun h' eb=>⟨rfl,I.turned (t':=s.toks) (fun b o hb e=>eb b o hb e) f0 f1 f3 f4 f5⟩
  self:=fun _ _ _ _ _ st h=>wpAny_pyIter_rangeiter st h
section
variable {X:Cx} {tg:Expr}
def zh7 (K:PySem.W.Frag) (tl:TE):TI:=fun σ H R=>tl σ H fun x H1=>∃ a,x=.ref a∧(∃ xs,SqL K H1 a xs)∧R (Itl K a) H1
def iTup (K:PySem.W.Frag) (tl:TE):TI:=fun σ H R=>tl σ H fun x H1=>∃ a,x=.ref a∧(∃ xs,SqT K H1 a xs)∧R (Itt K a) H1
theorem zf8 {l:Expr} {tl:TE} (hl:PE X l tl):PI X tg l (zh7 X.K tl):=by
  intro pins s σ H R I h;refine thn (hl pins s σ H _ I h) fun v s1 ⟨x,H1,I1,r1,q1⟩=>?_
  obtain⟨a,e,⟨xs,hq⟩,q⟩:=q1;subst e;cases r1;obtain⟨its,rv,p,hz⟩:=I1.list hq;refine wpAny_pyIter_list p.isList ?_;refine⟨s1.heap.objs.size,[s1.heap.objs.size],_,_,H1,rfl,I1.kept (t':=s1.toks) fun b o e=>Heap.get?_push_of_some _ e,zow a _,⟨_,Heap.get?_push_size _ rfl,rfl,rfl⟩,fun b hb=>?_,q⟩
  have e:b=s1.heap.objs.size:=by simpa using hb
  subst e;exact I1.fpOk (Nat.le_refl _) (I1.hok.fresh (Nat.le_refl _))
theorem zlJ {l:Expr} {tl:TE} (hl:PE X l tl):PI X tg l (iTup X.K tl):=by
  intro pins s σ H R I h;refine thn (hl pins s σ H _ I h) fun v s1 ⟨x,H1,I1,r1,q1⟩=>?_
  obtain⟨a,e,⟨xs,hq⟩,q⟩:=q1;subst e;cases r1;obtain⟨its,rv,p,hz⟩:=I1.tuple hq;refine wpAny_pyIter_tuple (show s1.heap.IsTuple a its.toArray from p) ?_
  refine⟨s1.heap.objs.size,[s1.heap.objs.size],_,_,H1,rfl,I1.kept (t':=s1.toks) fun b o e=>Heap.get?_push_of_some _ e,zmP a _,⟨_,Heap.get?_push_size _ rfl,rfl,rfl⟩,fun b hb=>?_,q⟩
  have e:b=s1.heap.objs.size:=by simpa using hb
  subst e;exact I1.fpOk (Nat.le_refl _) (I1.hok.fresh (Nat.le_refl _))
theorem zhz {pins:List (Addr×Obj)} {σ : St} {H:Hp} {s:Shared} {R:It→Hp→Prop} {E:Value→Shared→Prop} {lo hi:Int} {t u v:Tok} {tk:Nat} (I:Inv X pins σ H s) (h1:-(2 ^ 62)≤lo) (h2:lo<2 ^ 62) (h3:-(2 ^ 62)≤hi) (h4:hi<2 ^ 62)
    (q:R (Itr lo (hi - lo).toNat) H):wpAny (model X.prog X.w) X.A (pyIter (.ref s.heap.objs.size)) (PIE X pins σ tg R) E { s with heap:=s.heap.push { cls:=.type "range", data:=.fields #[.int lo t,.int hi u,.int 1 v] },toks:=tk }:=by
  refine wpAny_pyIter_range (IsRange.new ..) (small_one h1 h2 h3 h4) ?_
  have I1:Inv X pins σ H { s with heap:=s.heap.push { cls:=.type "range", data:=.fields #[.int lo t,.int hi u,.int 1 v] },toks:=tk }:=I.kept fun b o e=>Heap.get?_push_of_some _ e
  refine⟨(s.heap.push { cls:=.type "range", data:=.fields #[.int lo t,.int hi u,.int 1 v] }).objs.size,[(s.heap.push { cls:=.type "range", data:=.fields #[.int lo t,.int hi u,.int 1 v] }).objs.size],_,_,H,rfl,
    I1.kept (t':=tk) fun b o e=>Heap.get?_push_of_some _ e,zjb _ lo (hi - lo).toNat,?_,fun b hb=>?_,q⟩
  · have e1:lo+((0:Nat):Int)*1=lo:=by simp
    have e2:(((hi - lo).toNat:Nat):Int) - ((0:Nat):Int)=Builtin.Range.rangeSize lo hi 1:=by rw [rangeSize_one];split<;>omega
    show IsRangeIter _ _ (lo+((0:Nat):Int)*1) ((((hi - lo).toNat:Nat):Int) - ((0:Nat):Int)) 1
    rw [e1,e2];exact Heap.get?_push_size _ rfl
  · have e:b=(s.heap.push { cls:=.type "range", data:=.fields #[.int lo t,.int hi u,.int 1 v] }).objs.size:=by simpa using hb
    subst e;exact I1.fpOk (Nat.le_refl _) (I1.hok.fresh (Nat.le_refl _))
def zl0 (ta:TA):TI:=fun σ H R=>ta σ H fun vs H1=>∃ j:Int,vs=[.int j]∧-(2 ^ 62)≤j∧j<2 ^ 62∧R (Itr 0 j.toNat) H1
def zjt (ta:TA):TI:=fun σ H R=>ta σ H fun vs H1=>∃ i j:Int,vs=[.int i,.int j]∧(-(2 ^ 62)≤i∧i<2 ^ 62∧-(2 ^ 62)≤j∧j<2 ^ 62)∧R (Itr i (j - i).toNat) H1
theorem zmB {a:Expr} {ta:TA} {p pos:Pos} (hg:Gl X "range") (hm:X.mg "range" = none) (ha:PA X [a] ta) (hs:starEach [a] X.env=[(false,eval a X.env)]:=by rfl):PI X tg (.Call (.Name "range" p) [a] [] pos) (zl0 ta):=by
  intro pins s σ H R I h;refine Call_ (Zi I hg hm boot_range (PyProof.Rows.callWith_type1 (thn (ha pos pins s σ H _ I h) fun us s1 ⟨vs,H1,I1,r1,q1⟩=>?_) hs rfl))
  obtain⟨j,e,q1,q2,q⟩:=q1;subst e;cases r1 with
  | cons r rr=>
    cases rr;obtain⟨t,rfl⟩:=r
    exact call_range_1 (zhz I1 (by omega) (by omega) q1 q2 (by simpa using q))
theorem ziV {a b:Expr} {ta:TA} {p pos:Pos} (hg:Gl X "range") (hm:X.mg "range" = none) (ha:PA X [a,b] ta) (hs:starEach [a,b] X.env=[(false,eval a X.env),(false,eval b X.env)]:=by rfl) (hs2:starEach [b] X.env=[(false,eval b X.env)]:=by rfl) :
    PI X tg (.Call (.Name "range" p) [a,b] [] pos) (zjt ta):=by
  intro pins s σ H R I h;refine Call_ (Zi I hg hm boot_range (PyProof.Rows.callWith_type1 (thn (ha pos pins s σ H _ I h) fun us s1 ⟨vs,H1,I1,r1,q1⟩=>?_) (by rw [hs,hs2]) (by rw [hs2];rfl)))
  obtain⟨i,j,e,⟨q1,q2,q3,q4⟩,q⟩:=q1;subst e;cases r1 with
  | cons r rr=>
    cases rr with
    | cons r' rr=>
      cases rr;obtain⟨t,rfl⟩:=r
      obtain⟨t',rfl⟩:=r';exact call_range_2 (zhz I1 q1 q2 q3 q4 q)
def tFor (wi:TI) (g:TG) (tb:TS):TS:=fun D σ H=>wi σ H fun J H1=>∃ W:Nat→Nat→St→Hp→Prop,(∃ m,W 0 m σ H1)∧∀ i m σ H,W i m σ H→
  (J.stop i H∧D.nx σ H)∨(J.go i H∧∃ N:St→Hp→Prop,(∀ σ' H',N σ' H'→∃ m',m'<m∧W (i+1) m' σ' H')∧∀ x H',J.yld i H x H'→g x σ H' fun σ2 H2=>tb { D with nx:=N,ct:=N,bk:=D.nx } σ2 H2)
def zaY (fp:List Addr) (h:Heap):List (Addr×Obj):=fp.filterMap fun b=>(h.get? b).map fun o=>(b,o)
theorem zbR {fp:List Addr} {h:Heap} {b:Addr} {o:Obj} (hb:b∈fp) (e:h.get? b=some o):(b,o)∈zaY fp h:=List.mem_filterMap.mpr ⟨b,hb,by rw [e];rfl⟩
theorem zmC {fp:List Addr} {h:Heap} {p:Addr×Obj} (hp:p∈zaY fp h):p.1∈fp∧h.get? p.1=some p.2:=by
  obtain⟨b,hb,e⟩:=List.mem_filterMap.mp hp;cases q:h.get? b with
  | none=>rw [q] at e;cases e
  | some o=>
    rw [q] at e;have e':(b,o)=p:=Option.some.inj e;subst e';exact⟨hb,q⟩
theorem Inv.pinned {pins:List (Addr×Obj)} {σ : St} {H:Hp} {s:Shared} {fp:List Addr} (I:Inv X pins σ H s) (hf:∀ b∈fp,FpOk X pins H b) (ho:∀ b∈fp,∃ o,s.heap.get? b=some o∧∀ v,o.data≠.cell v):Inv X (pins++zaY fp s.heap) σ H s:=
  I.pins_of fun p hp=>(List.mem_append.mp hp).elim (fun z=>I.pin p (List.mem_append_right _ z)) fun z=>by
    obtain⟨hb,e⟩:=zmC z;obtain⟨f0,f1,f2,_⟩:=hf p.1 hb;obtain⟨o,e',d⟩:=ho p.1 hb;rw [e] at e';cases e';exact⟨e,f0,f1,f2,d⟩
theorem Inv.unpinned {pins pl:List (Addr×Obj)} {σ : St} {H:Hp} {s:Shared} (I:Inv X (pins++pl) σ H s):Inv X pins σ H s:=I.pins_of fun p hp=>I.pin p (List.mem_append_right _ (List.mem_append_left _ hp))
theorem zgd {iter:Expr} {body:List Stmt} {wi:TI} {g:TG} {tb:TS} {pos:Pos} (hp:PassesOwn (model X.prog X.w) X.A X.env X.xe) (hc:X.calm=true) (hi:PI X tg iter wi) (hg:PG X tg g) (hb:PSs X body tb)
    (hs:∀ x,foldedSetIterable iter X.env x=pure x:=by intro _;rfl):PS X (.For tg iter body [] pos) (tFor wi g tb):=by
  intro pins s σ H D I h;refine wpAny_For (thn (hi pins s σ H _ I h) fun v s1 h1=>thn h1 fun itv s2 h2=>?_) hs
  obtain⟨it,fp,tn,J,H2,e,I2,T,st2,f2,W,⟨m0,w0⟩,turn⟩:=h2;subst e;have stat:∀ {H':Hp},(∀ b∈fp,H' b=none)→∀ b∈fp,FpOk X pins H' b:=fun hn b hb=>⟨hn b hb,(f2 b hb).2⟩
  refine codeAny_forLoop_any (fun n s'=>∃ i σ' H',Inv X pins σ' H' s'∧tn i s'.heap∧(∀ b∈fp,H' b=none)∧W i n σ' H') ?_ m0 ⟨0,σ,H2,I2,st2,fun b hb=>(f2 b hb).1,w0⟩
  rintro n s3 ⟨i,σ3,H3,I3,st3,fr3,w3⟩
  rcases turn i n σ3 H3 w3 with ⟨stop,qn⟩|⟨go,N,hN,step⟩
  · refine wpAny_passesOwn hp (thn (T.done X rfl rfl rfl hc i pins s3 σ3 H3 X.xe I3 (stat fr3) st3 stop) fun r s4 ⟨hr,I4⟩=>?_)
    subst hr;exact wpAny_execs_nil ⟨σ3,H3,I4,qn⟩
  · refine wpAny_passesOwn hp (thn (T.item X rfl rfl rfl hc i pins s3 σ3 H3 X.xe I3 (stat fr3) st3 go) fun r s4 ⟨u,hr,h4⟩=>?_)
    subst hr;refine wpAny_passesOwn hp (thn h4 fun _ s5 ⟨x,H5,I5,r5,y5,st5,fr5⟩=>?_)
    have I5':=I5.pinned (stat fr5) (T.obj _ _ st5);refine wpAny_passesOwn hp (thn (hg _ s5 σ3 H5 x u _ I5' r5 (step x H5 y5)) fun _ s6 ⟨σ6,H6,I6,q6⟩=>?_)
    refine wpAny_passesOwn hp (thn (hb _ s6 σ6 H6 _ I6 q6) fun f s7 q7=>?_)
    have again:∀ {σ7:St} {H7:Hp},Inv X (pins++zaY fp s5.heap) σ7 H7 s7→N σ7 H7→∃ m,m<n∧∃ i σ' H',Inv X pins σ' H' s7∧tn i s7.heap∧(∀ b∈fp,H' b=none)∧W i m σ' H':=fun {σ7 H7} I7 n7=>by
      obtain⟨m',hm,w7⟩:=hN σ7 H7 n7;refine⟨m',hm,i+1,σ7,H7,I7.unpinned,T.keep _ _ _ st5 fun b hb o e=>(I7.pin (b,o) (List.mem_append_right _ (List.mem_append_right _ (zbR hb e)))).1,fun b hb=>?_,w7⟩
      obtain⟨o,e,d⟩:=T.obj _ _ st5 b hb;exact(I7.pin (b,o) (List.mem_append_right _ (List.mem_append_right _ (zbR hb e)))).2.1
    cases f with
    | next=>obtain⟨σ7,H7,I7,n7⟩:=q7;exact again I7 n7
    | cont=>obtain⟨σ7,H7,I7,n7⟩:=q7;exact again I7 n7
    | brk=>obtain⟨σ7,H7,I7,q7⟩:=q7;exact⟨σ7,H7,I7.unpinned,q7⟩
    | ret v=>obtain⟨x7,σ7,H7,I7,r7,q7⟩:=q7;exact⟨x7,σ7,H7,I7.unpinned,r7,q7⟩
end
theorem z7 {K:PySem.W.Frag} {a:Addr} {xs:List V} {g:TG} {tb:TS} {D:Ends} {σ : St} {H:Hp} (Pv:Nat→St→Hp→Prop) (h0:Pv 0 σ H) (hl:∀ i σ H,i≤xs.length→Pv i σ H→SqL K H a xs)
    (hs:∀ i x σ H,xs[i]?=some x→Pv i σ H→g x σ H fun σ2 H2=>tb { D with nx:=Pv (i+1),ct:=Pv (i+1),bk:=D.nx } σ2 H2) (hd:∀ σ H,Pv xs.length σ H→D.nx σ H) :
    ∃ W:Nat→Nat→St→Hp→Prop,(∃ m,W 0 m σ H)∧∀ i m σ H,W i m σ H→
      ((Itl K a).stop i H∧D.nx σ H)∨((Itl K a).go i H∧∃ N:St→Hp→Prop,(∀ σ' H',N σ' H'→∃ m',m'<m∧W (i+1) m' σ' H')∧∀ x H',(Itl K a).yld i H x H'→g x σ H' fun σ2 H2=>tb { D with nx:=N,ct:=N,bk:=D.nx } σ2 H2):=by
  refine⟨fun i m σ H=>m=xs.length - i∧i≤xs.length∧Pv i σ H,⟨xs.length,by simp,Nat.zero_le _,h0⟩,?_⟩
  rintro i m σ H ⟨rfl,hi,p⟩
  have q:=hl i σ H hi p
  by_cases hlt:i<xs.length
  · refine .inr ⟨⟨xs,xs[i],q,by simp [hlt]⟩,Pv (i+1),fun σ' H' p'=>⟨xs.length - (i+1),by omega,rfl,hlt,p'⟩,fun x H' y=>?_⟩
    obtain⟨e,y⟩:=y;subst e;exact hs i x σ _ (y xs q) p
  · have e:i=xs.length:=by omega
    subst e;exact .inl ⟨⟨xs,q,Nat.le_refl _⟩,hd σ H p⟩
theorem zeo {c:TT} {tb:TS} {D:Ends} {σ : St} {H:Hp} (Pv:St→Hp→Prop) (μ : St→Hp→Nat) (h0:Pv σ H)
    (hs:∀ σ H,Pv σ H→c σ H fun b H1=>if b=true then tb { D with nx:=fun σ' H'=>Pv σ' H'∧μ σ' H' < μ σ H,ct:=fun σ' H'=>Pv σ' H'∧μ σ' H' < μ σ H,bk:=D.nx } σ H1 else D.nx σ H1)
    (mono:∀ σ H Q Q',(∀ b H1,Q b H1→Q' b H1)→c σ H Q→c σ H Q'):zge c tb D σ H:=by
  refine⟨fun m σ H=>m = μ σ H∧Pv σ H,⟨_,rfl,h0⟩,?_⟩
  rintro m σ H ⟨rfl,p⟩
  refine mono σ H _ _ (fun b H1 q=>?_) (hs σ H p)
  cases b with
  | true=>exact⟨_,fun σ' H' ⟨p',l⟩=>⟨_,l,rfl,p'⟩,q⟩
  | false=>exact q
abbrev R2:=V→V→Hp→VK→Prop
def OpR (X:Cx) (f:Value→Value→Sem Value) (r:R2):Prop:=
  ∀ (pins:List (Addr×Obj)) (s:Shared) (σ : St) (H:Hp) (x y:V) (v u:Value) (Q:VK),Inv X pins σ H s→RelV x v→RelV y u→r x y H Q→
    wpAny (model X.prog X.w) X.A (f v u) (EP X pins σ Q) X.xe s
def UnR (X:Cx) (f:Value→Sem Value) (r:V→Hp→VK→Prop):Prop:=
  ∀ (pins:List (Addr×Obj)) (s:Shared) (σ : St) (H:Hp) (x:V) (v:Value) (Q:VK),Inv X pins σ H s→RelV x v→r x H Q→
    wpAny (model X.prog X.w) X.A (f v) (EP X pins σ Q) X.xe s
def zC (X:Cx) (f:Value) (r:List V→Hp→VK→Prop):Prop:=
  ∀ (pins:List (Addr×Obj)) (s:Shared) (σ : St) (H:Hp) (xs:List V) (us:List Value) (Q:VK),Inv X pins σ H s→Vals xs us→r xs H Q→
    wpAny (model X.prog X.w) X.A (call f us) (EP X pins σ Q) X.xe s
def tOp (r:R2) (ta tb:TE):TE:=fun σ H Q=>ta σ H fun x H1=>tb σ H1 fun y H2=>r x y H2 Q
def tUn (r:V→Hp→VK→Prop) (ta:TE):TE:=fun σ H Q=>ta σ H fun x H1=>r x H1 Q
def rI (C:Int→Int→Prop) (g:Int→Int→V):R2:=fun x y H Q=>∃ i j,x=.int i∧y=.int j∧C i j∧Q (g i j) H
def rI0 (g:Int→Int→V):R2:=fun x y H Q=>∃ i j,x=.int i∧y=.int j∧Q (g i j) H
def rU (g:Int→V):V→Hp→VK→Prop:=fun x H Q=>∃ i,x=.int i∧Q (g i) H
section
variable {X:Cx} {a b c:Expr} {ta tb tc:TE} {pos:Pos}
theorem binT (ha:PE X a ta) (hb:PE X b tb) {pins:List (Addr×Obj)} {s:Shared} {σ : St} {H:Hp} {R:V→V→Hp→Prop} (I:Inv X pins σ H s)
    (h:ta σ H fun x H1=>tb σ H1 fun y H2=>R x y H2) {Q:Value→Shared→Prop} {f:Value→Value→Sem Value}
    (hf:∀ v u s2 x y H2,Inv X pins σ H2 s2→RelV x v→RelV y u→R x y H2→wpAny (model X.prog X.w) X.A (f v u) Q X.xe s2) :
    wpAny (model X.prog X.w) X.A (eval a X.env) (fun v s₁=>wpAny (model X.prog X.w) X.A (eval b X.env) (fun u s₂=>wpAny (model X.prog X.w) X.A (f v u) Q X.xe s₂) X.xe s₁) X.xe s:=by
  refine thn (ha pins s σ H _ I h) fun v s1 ⟨x,H1,I1,r1,q1⟩=>?_
  refine thn (hb pins s1 σ H1 _ I1 q1) fun u s2 ⟨y,H2,I2,r2,q2⟩=>?_
  exact hf v u s2 x y H2 I2 r1 r2 q2
theorem zdg {op:Operator} {r:R2} (ho:OpR X (binaryOp op) r) (ha:PE X a ta) (hb:PE X b tb):PE X (.BinOp a op b pos) (tOp r ta tb):=by
  intro pins s σ H Q I h;exact wpAny_BinOp (binT ha hb I h fun v u s2 x y H2 I2 rx ry q=>ho pins s2 σ H2 x y v u Q I2 rx ry q)
theorem zk7 {op:UnaryOp} {r:V→Hp→VK→Prop} (ho:UnR X (unaryOp op) r) (ha:PE X a ta):PE X (.UnaryOp op a pos) (tUn r ta):=by
  intro pins s σ H Q I h;exact UnaryOp_ (thn (ha pins s σ H _ I h) fun v s1 ⟨x,H1,I1,r1,q1⟩=>ho pins s1 σ H1 x v Q I1 r1 q1)
theorem opI {f:Value→Value→Sem Value} {C:Int→Int→Prop} {g:Int→Int→Int}
    (rule:∀ (i j:Int) (t u:Tok) (s:Shared) (Q:Value→Shared→Prop) (E:Value→Shared→Prop),C i j→Q (.int (g i j) s.toks) { s with toks:=s.toks+1 }→wpAny (model X.prog X.w) X.A (f (.int i t) (.int j u)) Q E s) :
    OpR X f (rI C fun i j=>.int (g i j)):=by
  intro pins s σ H x y v u Q I rx ry h;obtain⟨i,j,rfl,rfl,hc,q⟩:=h;obtain⟨t,rfl⟩:=rx;obtain⟨t',rfl⟩:=ry;exact rule i j t t' s _ _ hc ⟨.int (g i j),H,I.tok _,⟨_,rfl⟩,q⟩
theorem opI0 {f:Value→Value→Sem Value} {g:Int→Int→Int}
    (rule:∀ (i j:Int) (t u:Tok) (s:Shared) (Q:Value→Shared→Prop) (E:Value→Shared→Prop),Q (.int (g i j) s.toks) { s with toks:=s.toks+1 }→wpAny (model X.prog X.w) X.A (f (.int i t) (.int j u)) Q E s) :
    OpR X f (rI0 fun i j=>.int (g i j)):=by
  intro pins s σ H x y v u Q I rx ry h;obtain⟨i,j,rfl,rfl,q⟩:=h;obtain⟨t,rfl⟩:=rx;obtain⟨t',rfl⟩:=ry;exact rule i j t t' s _ _ ⟨.int (g i j),H,I.tok _,⟨_,rfl⟩,q⟩
theorem opB0 {f:Value→Value→Sem Value} {g:Int→Int→Bool}
    (rule:∀ (i j:Int) (t u:Tok) (s:Shared) (Q:Value→Shared→Prop) (E:Value→Shared→Prop),Q (.bool (g i j)) s→wpAny (model X.prog X.w) X.A (f (.int i t) (.int j u)) Q E s) :
    OpR X f (rI0 fun i j=>.bl (g i j)):=by
  intro pins s σ H x y v u Q I rx ry h;obtain⟨i,j,rfl,rfl,q⟩:=h;obtain⟨t,rfl⟩:=rx;obtain⟨t',rfl⟩:=ry;exact rule i j t t' s _ _ ⟨.bl (g i j),H,I,rfl,q⟩
def CMul (i j:Int):Prop:=(-(2 ^ 64)<i∧i<2 ^ 64)∨(-(2 ^ 64)<j∧j<2 ^ 64)
theorem CMul.ok {i j:Int} (h:CMul i j):IntMulOk i j:=by
  rcases h with ⟨h1,h2⟩|⟨h1,h2⟩
  · exact .of_left (intBits_le_64 h1 h2)
  · exact .of_right (intBits_le_64 h1 h2)
theorem zmz:OpR X (binaryOp .Add) (rI0 fun i j=>.int (i+j)):=opI0 fun _ _ _ _ _ _ _ q=>add_int q
theorem ziN:OpR X (binaryOp .Sub) (rI0 fun i j=>.int (i - j)):=opI0 fun _ _ _ _ _ _ _ q=>sub_int q
theorem zh0:OpR X (binaryOp .Mod) (rI (fun _ j=>0<j) fun i j=>.int (i%j)):=opI fun i j _ _ _ _ _ hc q=>by
  have h1:(0:Int)<j:=hc;exact mod_int' (by omega) (by rw [Int.fmod_eq_emod_of_nonneg i (by omega)];exact q)
theorem unI {f:Value→Sem Value} {g:Int→Int}
    (rule:∀ (i:Int) (t:Tok) (s:Shared) (Q:Value→Shared→Prop) (E:Value→Shared→Prop),Q (.int (g i) s.toks) { s with toks:=s.toks+1 }→wpAny (model X.prog X.w) X.A (f (.int i t)) Q E s) :
    UnR X f (rU fun i=>.int (g i)):=by
  intro pins s σ H x v Q I rx h;obtain⟨i,rfl,q⟩:=h;obtain⟨t,rfl⟩:=rx;exact rule i t s _ _ ⟨.int (g i),H,I.tok _,⟨_,rfl⟩,q⟩
theorem zl2:UnR X (unaryOp .USub) (rU fun i=>.int (-i)):=unI fun _ _ _ _ _ q=>neg_int q
end
def scal:V→V→Bool
  | .non,.non=>true|.non,.int _=>true|.int _,.non=>true|.non,.bl _=>true|.bl _,.non=>true|.non,.str _=>true|.str _,.non=>true
  | .int _,.int _=>true|.bl _,.bl _=>true|.str _,.str _=>true|.byt _,.byt _=>true
  | .int _,.str _=>true|.str _,.int _=>true|.bl _,.str _=>true|.str _,.bl _=>true
  | _,_=>false
def rEq:R2:=fun x y H Q=>scal x y=true∧Q (.bl (decide (x=y))) H
def rNe:R2:=fun x y H Q=>scal x y=true∧Q (.bl (!decide (x=y))) H
theorem zgL {i j:Int}:decide (V.int i=V.int j)=(i==j):=by
  rw [Bool.eq_iff_iff]
  simp
theorem zgb {i j:Bool}:decide (V.bl i=V.bl j)=(i==j):=by
  rw [Bool.eq_iff_iff]
  simp
theorem zfp {i j:Str}:decide (V.str i=V.str j)=(i==j):=by
  rw [Bool.eq_iff_iff]
  simp
theorem zgo {i j:Array UInt8}:decide (V.byt i=V.byt j)=(i.toList==j.toList):=by
  rw [Bool.eq_iff_iff];cases i;cases j
  simp
section
variable {X:Cx} {a b c:Expr} {ta tb tc:TE} {pos:Pos}
theorem zB {pins:List (Addr×Obj)} {σ : St} {H:Hp} {s:Shared} {Q:VK} {k k':Bool} (I:Inv X pins σ H s) (q:Q (.bl k) H) (e:k=k'):EP X pins σ Q (.bool k') s:=by
  subst e;exact⟨.bl k,H,I,rfl,q⟩
theorem zkm:OpR X (compareOp .Eq) rEq:=by
  intro pins s σ H x y v u Q I rx ry h;obtain⟨hs,q⟩:=h;cases x with
  | non=>
    cases rx;cases y with
    | non=>cases ry;exact PySem.EqNone.eq_none_none (zB I q (by simp))
    | bl j=>cases ry;exact PySem.EqNone.eq_none_bool (zB I q (by simp))
    | int j=>obtain⟨t',rfl⟩:=ry;exact PySem.EqNone.eq_none_int (zB I q (by simp))
    | str j=>obtain⟨t',rfl⟩:=ry;exact PySem.EqNone.eq_none_str (zB I q (by simp))
    | _=>exact absurd (show false=true from hs) Bool.false_ne_true
  | bl i=>
    cases rx;cases y with
    | non=>cases ry;exact PySem.EqNone.eq_bool_none (zB I q (by simp))
    | bl j=>cases ry;exact eq_bool (zB I q zgb)
    | str j=>obtain⟨t',rfl⟩:=ry;exact PySem.EqMixed.eq_bool_str (zB I q (by simp))
    | _=>exact absurd (show false=true from hs) Bool.false_ne_true
  | int i=>
    obtain⟨t,rfl⟩:=rx;cases y with
    | non=>cases ry;exact PySem.EqNone.eq_int_none (zB I q (by simp))
    | int j=>obtain⟨t',rfl⟩:=ry;exact eq_int (zB I q zgL)
    | str j=>obtain⟨t',rfl⟩:=ry;exact PySem.EqMixed.eq_int_str (zB I q (by simp))
    | _=>exact absurd (show false=true from hs) Bool.false_ne_true
  | str i=>
    obtain⟨t,rfl⟩:=rx;cases y with
    | non=>cases ry;exact PySem.EqNone.eq_str_none (zB I q (by simp))
    | bl j=>cases ry;exact PySem.EqMixed.eq_str_bool (zB I q (by simp))
    | int j=>obtain⟨t',rfl⟩:=ry;exact PySem.EqMixed.eq_str_int (zB I q (by simp))
    | str j=>obtain⟨t',rfl⟩:=ry;exact eq_str (zB I q zfp)
    | _=>exact absurd (show false=true from hs) Bool.false_ne_true
  | byt i=>
    obtain⟨t,rfl⟩:=rx;cases y with
    | byt j=>obtain⟨t',rfl⟩:=ry;exact PySem.W.eq_bytes (zB I q zgo)
    | _=>exact absurd (show false=true from hs) Bool.false_ne_true
  | _=>cases y<;>exact absurd (show false=true from hs) Bool.false_ne_true
theorem zlF:OpR X (compareOp .NotEq) rNe:=by
  intro pins s σ H x y v u Q I rx ry h;obtain⟨hs,q⟩:=h;cases x with
  | non=>
    cases rx;cases y with
    | non=>cases ry;exact PySem.EqNone.ne_none_none (zB I q (by simp))
    | bl j=>cases ry;exact PySem.EqNone.ne_none_bool (zB I q (by simp))
    | int j=>obtain⟨t',rfl⟩:=ry;exact PySem.EqNone.ne_none_int (zB I q (by simp))
    | str j=>obtain⟨t',rfl⟩:=ry;exact PySem.EqNone.ne_none_str (zB I q (by simp))
    | _=>exact absurd (show false=true from hs) Bool.false_ne_true
  | bl i=>
    cases rx;cases y with
    | non=>cases ry;exact PySem.EqNone.ne_bool_none (zB I q (by simp))
    | bl j=>cases ry;exact ne_bool (zB I q (congrArg not zgb))
    | str j=>obtain⟨t',rfl⟩:=ry;exact PySem.EqMixed.ne_bool_str (zB I q (by simp))
    | _=>exact absurd (show false=true from hs) Bool.false_ne_true
  | int i=>
    obtain⟨t,rfl⟩:=rx;cases y with
    | non=>cases ry;exact PySem.EqNone.ne_int_none (zB I q (by simp))
    | int j=>obtain⟨t',rfl⟩:=ry;exact ne_int (zB I q (congrArg not zgL))
    | str j=>obtain⟨t',rfl⟩:=ry;exact PySem.EqMixed.ne_int_str (zB I q (by simp))
    | _=>exact absurd (show false=true from hs) Bool.false_ne_true
  | str i=>
    obtain⟨t,rfl⟩:=rx;cases y with
    | non=>cases ry;exact PySem.EqNone.ne_str_none (zB I q (by simp))
    | bl j=>cases ry;exact PySem.EqMixed.ne_str_bool (zB I q (by simp))
    | int j=>obtain⟨t',rfl⟩:=ry;exact PySem.EqMixed.ne_str_int (zB I q (by simp))
    | str j=>obtain⟨t',rfl⟩:=ry;exact ne_str (zB I q (congrArg not zfp))
    | _=>exact absurd (show false=true from hs) Bool.false_ne_true
  | byt i=>
    obtain⟨t,rfl⟩:=rx;cases y with
    | byt j=>obtain⟨t',rfl⟩:=ry;exact PySem.W.ne_bytes (zB I q (congrArg not zgo))
    | _=>exact absurd (show false=true from hs) Bool.false_ne_true
  | _=>cases y<;>exact absurd (show false=true from hs) Bool.false_ne_true
theorem ziz:OpR X (compareOp .Lt) (rI0 fun i j=>.bl (decide (i<j))):=opB0 fun _ _ _ _ _ _ _ q=>lt_int q
theorem zly:OpR X (compareOp .LtE) (rI0 fun i j=>.bl (decide (i≤j))):=opB0 fun _ _ _ _ _ _ _ q=>le_int q
theorem zko:OpR X (compareOp .Gt) (rI0 fun i j=>.bl (decide (j<i))):=opB0 fun _ _ _ _ _ _ _ q=>gt_int q
theorem zoe:OpR X (compareOp .GtE) (rI0 fun i j=>.bl (decide (j≤i))):=opB0 fun _ _ _ _ _ _ _ q=>ge_int q
theorem zlC:OpR X (compareOp .In) (fun x y H Q=>∃ i j,x=.str i∧y=.str j∧Q (.bl (!(Builtin.Str.occurrences j i 0 j.length 1).isEmpty)) H):=by
  intro pins s σ H x y v u Q I rx ry h;obtain⟨i,j,rfl,rfl,q⟩:=h;obtain⟨t,rfl⟩:=rx;obtain⟨t',rfl⟩:=ry;exact in_str (zB I q rfl)
theorem zoQ:OpR X (compareOp .IsNot) (fun x y H Q=>y=.non∧Q (.bl (!decide (x=.non))) H):=by
  intro pins s σ H x y v u Q I rx ry h;obtain⟨rfl,q⟩:=h;cases ry;refine isnot_none_gen (zB I q ?_);cases x<;>first
    | (cases rx;rfl)
    | (obtain⟨t,rfl⟩:=rx;rfl)
theorem zlV:OpR X (compareOp .NotIn) (fun x y H Q=>∃ i j,x=.str i∧y=.str j∧Q (.bl (!(!(Builtin.Str.occurrences j i 0 j.length 1).isEmpty))) H):=by
  intro pins s σ H x y v u Q I rx ry h;obtain⟨i,j,rfl,rfl,q⟩:=h;obtain⟨t,rfl⟩:=rx;obtain⟨t',rfl⟩:=ry;exact notIn_str (zB I q rfl)
theorem OpR.or {f:Value→Value→Sem Value} {r r':R2} (h:OpR X f r) (h':OpR X f r'):OpR X f (fun x y H Q=>r x y H Q∨r' x y H Q):=by
  intro pins s σ H x y v u Q I rx ry q
  rcases q with q|q
  · exact h pins s σ H x y v u Q I rx ry q
  · exact h' pins s σ H x y v u Q I rx ry q
theorem nomark (b:Expr) {op:CmpOp} (h:op≠.In:=by decide) (h2:op≠.NotIn:=by decide):behindInMarks op b=false:=by
  have e1:(op==CmpOp.In)=false:=by cases op<;>first|rfl|exact absurd rfl h
  have e2:(op==CmpOp.NotIn)=false:=by cases op<;>first|rfl|exact absurd rfl h2
  cases b<;>simp [behindInMarks,e1,e2]
theorem zmH {op:CmpOp} {r:R2} (ho:OpR X (compareOp op) r) (ha:PE X a ta) (hb:PE X b tb) (hm:behindInMarks op b=false):PE X (.Compare a [op] [b] pos) (tOp r ta tb):=by
  intro pins s σ H Q I h;exact wpAny_Compare1 (binT ha hb I h fun v u s2 x y H2 I2 rx ry q=>ho pins s2 σ H2 x y v u Q I2 rx ry q) hm
def za0 (t:TE):TT:=fun σ H Q=>t σ H fun x H'=>∃ k,x=.bl k∧Q k H'
theorem zm9 {op:CmpOp} {r:R2} (ho:OpR X (compareOp op) r) (ha:PE X a ta) (hb:PE X b tb) (hm:behindInMarks op b=false):PT X (.Compare a [op] [b] pos) (za0 (tOp r ta tb)):=by
  intro pins s σ H Q I h;refine wpAny_isTrue_Compare1 (thn (ha pins s σ H _ I h) fun v s1 ⟨x,H1,I1,r1,q1⟩=>thn (hb pins s1 σ H1 _ I1 q1) fun u s2 ⟨y,H2,I2,r2,q2⟩=>
    thn (ho pins s2 σ H2 x y v u _ I2 r1 r2 q2) fun c s3 ⟨z,H3,I3,r3,k,e,q3⟩=>?_) hm
  subst e;cases r3;exact wpAny_truthy_bool ⟨H3,I3,q3⟩
def zhv (r r':R2) (ta tb tc:TE):TE:=fun σ H Q=>ta σ H fun x H1=>tb σ H1 fun y H2=>r x y H2 fun z H3=>∃ k,z=.bl k∧
  (if k=true then tc σ H3 fun w' H4=>r' y w' H4 Q else Q (.bl false) H3)
theorem zlb {op op':CmpOp} {r r':R2} (ho:OpR X (compareOp op) r) (ho':OpR X (compareOp op') r') (ha:PE X a ta) (hb:PE X b tb) (hc:PE X c tc)
    (hm:lastMarks [op,op'] [b,c]=false:=by with_unfolding_all rfl):PT X (.Compare a [op,op'] [b,c] pos) (za0 (zhv r r' ta tb tc)):=by
  intro pins s σ H Q I h;refine isTrue_chain (thn (ha pins s σ H _ I h) fun v s1 ⟨x,H1,I1,r1,q1⟩=>test_link (thn (hb pins s1 σ H1 _ I1 q1) fun u s2 ⟨y,H2,I2,r2,q2⟩=>
    thn (ho pins s2 σ H2 x y v u _ I2 r1 r2 q2) fun d s3 ⟨z,H3,I3,r3,k,e,q3⟩=>?_)) hm
  subst e;cases r3;refine wpAny_truthy_bool ?_;cases k with
  | false=>
    obtain⟨k',e',q'⟩:=q3;cases e';exact ite_ff ⟨H3,I3,q'⟩
  | true=>
    refine ite_tt (test_last (thn (hc pins s3 σ H3 _ I3 q3) fun w' s4 ⟨z',H4,I4,r4,q4⟩=>thn (ho' pins s4 σ H4 y z' u w' _ I4 r2 r4 q4) fun d' s5 ⟨z2,H5,I5,r5,k2,e2,q5⟩=>?_))
    subst e2;cases r5;exact wpAny_truthy_bool ⟨H5,I5,q5⟩
theorem Jt:(sizeLine:Nat)<2 ^ 63:=by rw [sizeLine_eq];decide
theorem zkh:OpR X (binaryOp .Add) (fun x y H Q=>∃ i j,x=.str i∧y=.str j∧i.length+j.length≤sizeLine∧Q (.str (i++j)) H):=by
  intro pins s σ H x y v u Q I rx ry h;obtain⟨i,j,rfl,rfl,hz,q⟩:=h;obtain⟨t,rfl⟩:=rx;obtain⟨t',rfl⟩:=ry;exact add_str (fun t' tk=>⟨.str (i++j),H,I.tok _,⟨_,rfl⟩,q⟩) hz
theorem jO {x:V} {us:List Value} (r:Vals [x] us):∃ u,us=[u]∧RelV x u:=by
  cases r with
  | cons r1 r2=>cases r2;exact⟨_,rfl,r1⟩
theorem zcI {x y:V} {us:List Value} (r:Vals [x,y] us):∃ u w',us=[u,w']∧RelV x u∧RelV y w':=by
  cases r with
  | cons r1 r2=>
    cases r2 with
    | cons r3 r4=>cases r4;exact⟨_,_,rfl,r1,r3⟩
theorem zlm:zC X (.builtin "abs") (fun xs H Q=>∃ i,xs=[.int i]∧Q (.int (if i<0 then -i else i)) H):=by
  intro pins s σ H xs us Q I r h;obtain⟨i,rfl,q⟩:=h;obtain⟨u,rfl,t,rfl⟩:=jO r;exact call_abs_int fun u tk=>⟨.int (if i<0 then -i else i),H,I.tok _,⟨_,rfl⟩,q⟩
theorem zmR (hc:X.calm=true):zC X (.builtin "max") (fun xs H Q=>∃ i j,xs=[.int i,.int j]∧Q (.int (if j > i then j else i)) H):=by
  intro pins s σ H xs us Q I r h;obtain⟨i,j,rfl,q⟩:=h;obtain⟨u,w',rfl,⟨t,rfl⟩,⟨t',rfl⟩⟩:=zcI r;refine max_two_ints (I.ok.hd hc) fun h' tk k=>⟨_,H,I.kept k,?_,q⟩
  by_cases hj:j > i
  · rw [if_pos hj,if_pos hj];exact⟨_,rfl⟩
  · rw [if_neg hj,if_neg hj];exact⟨_,rfl⟩
theorem znQ (hc:X.calm=true):zC X (.builtin "min") (fun xs H Q=>∃ i j,xs=[.int i,.int j]∧Q (.int (if j<i then j else i)) H):=by
  intro pins s σ H xs us Q I r h;obtain⟨i,j,rfl,q⟩:=h;obtain⟨u,w',rfl,⟨t,rfl⟩,⟨t',rfl⟩⟩:=zcI r;refine min_two_ints (I.ok.hd hc) fun h' tk k=>⟨_,H,I.kept k,?_,q⟩
  by_cases hj:j<i
  · rw [if_pos hj,if_pos hj];exact⟨_,rfl⟩
  · rw [if_neg hj,if_neg hj];exact⟨_,rfl⟩
theorem zkX:zC X (.type "str") (fun xs H Q=>∃ i,xs=[.int i]∧i.natAbs.log2<1920∧Q (.str (toString i)) H):=by
  intro pins s σ H xs us Q I r h;obtain⟨i,rfl,hz,q⟩:=h;obtain⟨u,rfl,t,rfl⟩:=jO r;exact PySem.P.str_of_int hz ⟨.str _,H,I.tok _,⟨_,rfl⟩,q⟩
end
structure ObjM (h:Heap) (x dx C:Addr) (mA:Str→Option Value):Prop where
  obj:h.get? x=some (PySem.W.instObj C dx)
  ns:h.Ns1 dx mA
  ne:dx≠x
theorem ziZ {h:Heap} {dx:Addr} {mA:Str→Option Value} (n:h.Ns1 dx mA):∃ od,h.get? dx=some od∧∀ name,PySem.W.lookIn name od=some (mA name):=by
  obtain⟨o,es,ep,ho,hd,hk,_,hm⟩:=n;refine⟨o,ho,fun name=>?_⟩
  have e:=hm name;unfold nsFind findBy at e;rw [←Array.find?_toList] at e;unfold PySem.W.lookIn;rw [hd];dsimp only
  split
  · rename_i y q
    rw [q] at e;exact congrArg some e
  · rename_i q
    rw [q] at e;have a:es.toList.any (·.refKey)=false:=by
      rw [List.any_eq_false];intro y hy;obtain⟨z,t,hkey⟩:=hk y (Array.mem_toList_iff.mp hy)
      simp [DictEntry.refKey,hkey]
    have a':¬es.toList.any (·.refKey)=true:=by rw [a];exact Bool.false_ne_true
    rw [if_neg a'];exact congrArg some e
theorem ObjM.look {h:Heap} {x dx C:Addr} {mA:Str→Option Value} (I:ObjM h x dx C mA):∃ od,PySem.W.InstAt h x (PySem.W.instObj C dx) C (some od)∧∀ name,PySem.W.lookIn name od=some (mA name):=
  let ⟨od,ho,hl⟩:=ziZ I.ns
  ⟨od,⟨I.obj,rfl,rfl,ho⟩,hl⟩
section
variable {prog:Program} {w:World} {A:Around} {E:Value→Shared→Prop} {s:Shared} {K:PySem.W.Frag} {x dx C f:Addr} {mA:Str→Option Value} {name:Str} {v:Value}
theorem znK {expr:Bool} {Q:Value→Shared→Prop} (X:K.In s.heap) (I:ObjM s.heap x dx C mA) (hg:PySem.W.plainGet K C name=true) (hh:PySem.W.hasDictIn K C=true)
    (ha:PySem.W.findIn K (.ref C) name=some none) (hv:mA name=some v) (hv':PySem.W.handedIn v=true) (h:Q v { s with toks:=s.toks+1 }) :
    wpAny (model prog w) A (getAttr (.ref x) name expr) Q E s:=by
  obtain⟨od,J,hl⟩:=I.look;exact PySem.W.get_value X J (PySem.W.plainGet_of hg).1 (PySem.W.findObj_own hh ha rfl (by rw [hl,hv])) hv' h
theorem zh8 {pl:Sem Bool} {Q:Value×List Value→Shared→Prop} (X:K.In s.heap) (I:ObjM s.heap x dx C mA) (hg:PySem.W.plainGet K C name=true)
    (hf:PySem.W.findIn K (.ref C) name=some (some (.ref f))) (ht:PySem.W.isFn K (.ref f)=true) (hv:mA name=none) (h:Q (.ref f,[.ref x]) s) :
    wpAny (model prog w) A (getMethod (.ref x) name pl) Q E s:=by
  obtain⟨od,J,hl⟩:=I.look;exact PySem.W.method_fn X J (PySem.W.plainGet_of hg).1 (PySem.W.plainGet_of hg).2 hf (beq_iff_eq.mp ht) (by show(PySem.W.lookIn name od).map (·.isSome)=some false;rw [hl,hv];rfl) h
theorem zmS {ns:List Str} {Q:Unit→Shared→Prop} (X:K.In s.heap) (I:ObjM s.heap x dx C mA)
    (hs:PySem.W.findIn K (.ref C) "__setattr__" = some (some (.builtin "object.__setattr__"))) (hp:PySem.W.plainOver K C=true) (ht:PySem.W.takerIn K C name=some none) (hh:PySem.W.hasDictIn K C=true)
    (hw:PySem.Within mA ns) (hsz:ns.length≤sizeLine)
    (h:∀ h',ObjM h' x dx C (fun y=>if y=name then some v else mA y)→Heap.SameBut dx s.heap h'→Q () { s with heap:=h',toks:=s.toks+2 }) :
    wpAny (model prog w) A (setAttr (.ref x) name v) Q E s:=by
  obtain⟨od,J,hl⟩:=I.look;refine PySem.W.set_plain X J hs (PySem.W.osa_open (s:={ s with toks:=s.toks+1 }) (r:=none) X J hp ht fun b=>?_)
  obtain⟨cd,hc,hd'⟩:=PySem.W.any_some hh;have hx:s.heap.get? x=some ⟨.ref C,some dx,.plain,#[]⟩:=I.obj;refine wpAny_bind (wpAny_pure (wpAny_bind (wpAny_bind (wpAny_loadPart hx (wpAny_bind (PySem.W.Looks.here (s:={ s with toks:=s.toks+1 }) (PySem.W.looks_clsIn X hc) ?_))))))
  rw [hd'];refine wpAny_pure (a:=some dx) (wpAny_bind (wpAny_pure (wpAny_bind ?_)));refine wpAny_nsSet1 (s:={ s with toks:=s.toks+1 }) I.ns fun h' hn2 hs2=>?_
  obtain⟨oD,esD,epD,hoD,hdD,hcD⟩:=hn2.count (PySem.Within.cons name v hw);refine wpAny_bind (wpAny_lookBehind hoD (by rw [hdD];exact pastItsLine_dict (Nat.le_trans hcD (by rw [List.length_cons];omega))) ?_)
  exact wpAny_pure (h _ ⟨(hs2.2 _ (Ne.symm I.ne)).trans I.obj,hn2,I.ne⟩ hs2)
theorem zoO {R:Result→Shared→Prop} {vs:List Value} {kw:List (Str×Value)} (X:K.In s.heap) (hm:PySem.W.makesIn K C=true)
    (hi:PySem.W.findIn K (.ref C) "__init__" = some (some (.ref f))) (hf:PySem.W.typeIn K (.ref f)=some (.type "function"))
    (h:codeAny (model prog w) (A.under (.builtin "type.__call__" ⟨.ref C::vs,kw⟩)) (.call (.ref f) ⟨.ref (s.heap.objs.size+1)::vs,kw⟩) (PySem.W.InitBack (s.heap.objs.size+1) R)
      { s with heap:=(s.heap.push PySem.W.emptyDict).push (PySem.W.instObj C s.heap.objs.size) }) :
    codeAny (model prog w) A (.call (.ref C) ⟨vs,kw⟩) R s:=by
  obtain⟨hh,g,d,t,os⟩:=s;exact PySem.W.make_core (PySem.W.makes_of X hm) (PySem.W.looks_findIn X hi) (fun self=>PySem.W.bind_fn X self hf) (.inl rfl) h
end
def putF (f:Str) (v:V):List (Str×V)→List (Str×V)
  | []=>[(f,v)]
  | (g,x)::r=>if g=f then(g,v)::r else(g,x)::putF f v r
theorem zeN (f g:Str) (v:V):∀ fs:List (Str×V),(putF f v fs).lookup g=if g=f then some v else fs.lookup g
  | [] => by
    show List.lookup g [(f,v)]=_
    by_cases h:g=f
    · have hb:(g==f)=true:=beq_iff_eq.mpr h
      simp only [List.lookup,hb,if_pos h]
    · have hb:(g==f)=false:=beq_eq_false_iff_ne.mpr h
      simp only [List.lookup,hb,if_neg h]
  | (k, x) :: r => by
    have ih:=zeN f g v r;rw [show putF f v ((k,x)::r)=(if k=f then(k,v)::r else(k,x)::putF f v r) from rfl]
    by_cases hk:k=f
    · rw [if_pos hk]
      by_cases h:g=k
      · have hb:(g==k)=true:=beq_iff_eq.mpr h
        simp only [List.lookup,hb,if_pos (h.trans hk)]
      · have hb:(g==k)=false:=beq_eq_false_iff_ne.mpr h
        simp only [List.lookup,hb,if_neg (fun e:g=f=>h (e.trans hk.symm))]
    · rw [if_neg hk]
      by_cases h:g=k
      · have hb:(g==k)=true:=beq_iff_eq.mpr h
        simp only [List.lookup,hb,if_neg (fun e:g=f=>hk (h.symm.trans e))]
      · have hb:(g==k)=false:=beq_eq_false_iff_ne.mpr h
        simp only [List.lookup,hb];exact ih
theorem zdG (f:Str) (v:V):∀ fs:List (Str×V),f∈(putF f v fs).map (·.1)∧∀ g,g∈fs.map (·.1)→g∈(putF f v fs).map (·.1)
  | []=>⟨by simp [putF],fun g h=>by simp at h⟩
  | (k, x) :: r => by
    obtain⟨i1,i2⟩:=zdG f v r;rw [show putF f v ((k,x)::r)=(if k=f then(k,v)::r else(k,x)::putF f v r) from rfl]
    by_cases hk:k=f
    · rw [if_pos hk]
      subst hk;exact⟨by simp,fun g h=>by simpa using h⟩
    · rw [if_neg hk]
      refine⟨?_,fun g h=>?_⟩
      · rw [List.map_cons]
        exact List.mem_cons_of_mem _ i1
      · rw [List.map_cons] at h ⊢
        rcases List.mem_cons.mp h with e|e
        · exact List.mem_cons.mpr (.inl e)
        · exact List.mem_cons_of_mem _ (i2 g e)
theorem zhA (f:Str) (v:V):∀ fs:List (Str×V),(putF f v fs).length≤fs.length+1
  | []=>by simp [putF]
  | (k, x) :: r => by
    have ih:=zhA f v r;rw [show putF f v ((k,x)::r)=(if k=f then(k,v)::r else(k,x)::putF f v r) from rfl]
    by_cases hk:k=f
    · rw [if_pos hk,List.length_cons,List.length_cons];omega
    · rw [if_neg hk,List.length_cons,List.length_cons];omega
theorem RelO.some_of {v:V} {o:Option Value} (r:RelO (some v) o):∃ u,o=some u∧RelV v u:=by
  cases o with
  | none=>exact(show False from r).elim
  | some u=>exact⟨u,rfl,r⟩
theorem RelO.none_of {o:Option Value} (r:RelO none o):o=none:=by
  cases o with
  | none=>rfl
  | some u=>exact(show False from r).elim
theorem zlf {v:V} {u:Value} (r:RelV v u):PySem.W.handedIn u=true:=by
  cases v with
  | non=>cases(show u=Value.none from r);rfl
  | bl b=>cases(show u=Value.bool b from r);rfl
  | int i=>obtain⟨t,e⟩:=(show ∃ t,u=Value.int i t from r);cases e;rfl
  | str x=>obtain⟨t,e⟩:=(show ∃ t,u=Value.str x t from r);cases e;rfl
  | byt b=>obtain⟨t,e⟩:=(show ∃ t,u=Value.bytes b t from r);cases e;rfl
  | flt b=>obtain⟨t,e⟩:=(show ∃ t,u=Value.float b t from r);cases e;rfl
  | ref a=>cases(show u=Value.ref a from r);rfl
  | ty n=>cases(show u=Value.type n from r);rfl
section
variable {P:Program} {w:World} {H H':Hp} {h h':Heap} {a C dx:Addr} {fs fs':List (Str×V)}
theorem zdc (hok:HOk P w H h) (e:H a=some (.ins C dx fs)):∃ mA,ObjM h a dx C mA∧(∀ f,RelO (fs.lookup f) (mA f))∧PySem.Within mA (fs.map (·.1))∧fs.length≤1000∧H dx=some (.own a):=by
  obtain⟨d,z,ne,ob,mA,n,r,q⟩:=(show zK P w H h a (.ins C dx fs) from hok a _ e)
  exact⟨mA,⟨ob,n,ne⟩,r,q,z,d⟩
end
structure Cls (K:PySem.W.Frag) (C:Addr):Prop where
  pg:PySem.W.plainGet K C Str.empty=true
  hd:PySem.W.hasDictIn K C=true
  po:PySem.W.plainOver K C=true
  sa:PySem.W.findIn K (.ref C) "__setattr__" = some (some (.builtin "object.__setattr__"))
theorem Cls.get {K:PySem.W.Frag} {C:Addr} (c:Cls K C) (f:Str):PySem.W.plainGet K C f=true:=c.pg
def jd (K:PySem.W.Frag) (C:Addr) (f:Str):Prop:=PySem.W.findIn K (.ref C) f=some none
theorem jd.taker {K:PySem.W.Frag} {C:Addr} {f:Str} (n:jd K C f):PySem.W.takerIn K C f=some none:=by
  unfold PySem.W.takerIn;rw [show PySem.W.findIn K (.ref C) f=some none from n]
  rfl
structure Meth (K:PySem.W.Frag) (C:Addr) (m:Str) (f:Addr):Prop where
  at_:PySem.W.findIn K (.ref C) m=some (some (.ref f))
  fn:PySem.W.isFn K (.ref f)=true
  kp:PySem.W.keepIn K (.ref f)=true
section
variable {X:Cx} {pins:List (Addr×Obj)} {σ : St} {H:Hp} {s:Shared} {a C dx:Addr} {fs:List (Str×V)} {f:Str} {v:V} {A:Around} {E:Value→Shared→Prop}
theorem zlU {b:Bool} {Q:Value→Shared→Prop} (I:Inv X pins σ H s) (e:H a=some (.ins C dx fs)) (c:Cls X.K C) (n:jd X.K C f) (l:fs.lookup f=some v)
    (h:∀ u s',Inv X pins σ H s'→RelV v u→Q u s'):wpAny (model X.prog X.w) A (getAttr (.ref a) f b) Q E s:=by
  obtain⟨mA,O,r,_,_,_⟩:=zdc I.hok e;obtain⟨u,hu,ru⟩:=RelO.some_of (v:=v) (o:=mA f) (by rw [←l];exact r f)
  exact znK I.kIn O (c.get f) c.hd n hu (zlf ru) (h u _ (I.tok _) ru)
theorem zov {m:Str} {g:Addr} {pl:Sem Bool} {Q:Value×List Value→Shared→Prop} (I:Inv X pins σ H s) (e:H a=some (.ins C dx fs)) (c:Cls X.K C) (k:Meth X.K C m g) (l:fs.lookup m=none)
    (h:Q (.ref g,[.ref a]) s):wpAny (model X.prog X.w) A (getMethod (.ref a) m pl) Q E s:=by
  obtain⟨mA,O,r,_,_,_⟩:=zdc I.hok e;have hn:mA m=none:=RelO.none_of (by rw [←l];exact r m)
  exact zh8 I.kIn O (c.get m) k.at_ k.fn hn h
theorem znw {y:V} {u:Value} {Q:Unit→Shared→Prop} (I:Inv X pins σ H s) (e:H a=some (.ins C dx fs)) (c:Cls X.K C) (n:jd X.K C f) (hl:fs.length<1000) (ry:RelV y u)
    (h:∀ s',Inv X pins σ (upd H a (.ins C dx (putF f y fs))) s'→Q () s'):wpAny (model X.prog X.w) A (setAttr (.ref a) f u) Q E s:=by
  obtain⟨mA,O,r,wi,_,ho⟩:=zdc I.hok e;have hz:(fs.map (·.1)).length≤sizeLine:=by rw [List.length_map,sizeLine_eq];omega
  refine zmS I.kIn O c.sa c.po n.taker c.hd wi hz fun h' O' sb=>h _ ?_
  have hd:∃ o,h'.get? dx=some o:=let ⟨o,_,_,e',_⟩:=O'.ns;⟨o,e'⟩;refine I.write (x:=a) (e:=dx) (by rw [e];exact True.intro) (.inr ho) (fun b q hb z=>(sb.2 b hb).trans z) hd ?_
  refine⟨by rw [zd O.ne];exact ho,?_,O.ne,O'.obj,_,O'.ns,fun g=>?_,fun g hg=>?_⟩
  · have:=zhA f y fs;omega
  · show RelO ((putF f y fs).lookup g) (if g=f then some u else mA g)
    rw [zeN]
    by_cases q:g=f
    · rw [if_pos q,if_pos q];exact ry
    · rw [if_neg q,if_neg q];exact r g
  · by_cases q:g=f
    · rw [q];exact(zdG f y fs).1
    · refine(zdG f y fs).2 g (wi g fun z=>hg ?_)
      show(if g=f then some u else mA g)=none
      rw [if_neg q];exact z
theorem Inv.made (I:Inv X pins σ H s):Inv X pins σ (upd (upd H s.heap.objs.size (.own (s.heap.objs.size+1))) (s.heap.objs.size+1) (.ins C s.heap.objs.size []))
    { s with heap:=(s.heap.push PySem.W.emptyDict).push (PySem.W.instObj C s.heap.objs.size) }:=by
  have e1:(s.heap.push PySem.W.emptyDict).get? s.heap.objs.size=some PySem.W.emptyDict:=Heap.get?_push_size s.heap rfl;have e2:((s.heap.push PySem.W.emptyDict).push (PySem.W.instObj C s.heap.objs.size)).get? (s.heap.objs.size+1)=some (PySem.W.instObj C s.heap.objs.size):=by
    have:=Heap.get?_push_size (s.heap.push PySem.W.emptyDict) (o:=PySem.W.instObj C s.heap.objs.size) rfl;rwa [Heap.size_push] at this
  have e3:(s.heap.push PySem.W.emptyDict).Ns s.heap.objs.size (fun _=>none):=⟨PySem.W.emptyDict,#[],_,e1,rfl,(fun e he=>absurd he (by simp)),fun _=>rfl⟩
  have I1:=I.laid (a:=s.heap.objs.size) (o:=.own (s.heap.objs.size+1)) (h':=s.heap.push PySem.W.emptyDict) (t':=s.toks) (fun b u q=>Heap.get?_push_of_some _ q) (Nat.le_refl _) ⟨_,e1⟩
  refine I1.laid (a:=s.heap.objs.size+1) (o:=.ins C s.heap.objs.size []) (t':=s.toks) (fun b u q=>Heap.get?_push_of_some _ q) (Nat.le_of_eq (Heap.size_push _ _)) ?_
  have ne:s.heap.objs.size≠s.heap.objs.size+1:=Nat.ne_of_lt (Nat.lt_succ_self _);refine⟨by rw [zd ne,zh],Nat.zero_le _,ne,e2,fun _=>none,(Heap.Ns1.of_empty e3).at fun o q=>Heap.get?_push_of_some _ q,fun _=>True.intro,fun y hy=>absurd rfl hy⟩
theorem zkP {prog:Program} {w:World} {env:Env} {e:Expr} {f:Str} {pos:Pos} {s:Shared} {Q:Value→Shared→Prop} (hb:attributeBase e f env (eval e env)=eval e env)
    (h:wpAny (model prog w) A (eval e env) (fun o s₁=>wpAny (model prog w) A (getAttr o f true) Q E s₁) E s):wpAny (model prog w) A (eval (.Attribute e f pos) env) Q E s:=
  Attribute_any_ h (by rw [arm_eval_Attribute,hb])
end
def tFld (K:PySem.W.Frag) (ta:TE) (f:Str):TE:=fun σ H Q=>ta σ H fun x H1=>∃ a C dx fs v,x=.ref a∧H1 a=some (.ins C dx fs)∧Cls K C∧jd K C f∧fs.lookup f=some v∧Q v H1
def sFld (K:PySem.W.Frag) (ta tv:TE) (f:Str):TS:=fun D σ H=>tv σ H fun y H1=>ta σ H1 fun x H2=>∃ a C dx fs,x=.ref a∧H2 a=some (.ins C dx fs)∧Cls K C∧jd K C f∧fs.length<1000∧
  D.nx σ (upd H2 a (.ins C dx (putF f y fs)))
section
variable {X:Cx} {o e value:Expr} {f:Str} {pos pos' tpos:Pos} {ta tv:TE}
theorem zjE (he:PE X e ta) (hb:attributeBase e f X.env (eval e X.env)=eval e X.env):PE X (.Attribute e f pos) (tFld X.K ta f):=by
  intro pins s σ H Q I h;refine zkP hb (thn (he pins s σ H _ I h) fun u s1 ⟨x,H1,I1,rx,a,C,dx,fs,v,ex,ea,c,n,l,q⟩=>?_)
  subst ex;obtain rfl:u=Value.ref a:=rx;exact zlU I1 ea c n l fun u' s2 I2 ru=>⟨v,H1,I2,ru,q⟩
theorem JH (ha:PE X o ta) (hv:PE X value tv) (hs:swapsWith value (some (.Attribute o f pos')) pos.line X.env=pure false):PS X (.Assign [.Attribute o f pos'] value pos) (sFld X.K ta tv f):=by
  intro pins s σ H D I h;refine plainObj_wpAny_Assign_Attribute (thn (hv pins s σ H _ I h) fun u s1 ⟨y,H1,I1,ry,q⟩=>thn (ha pins s1 σ H1 _ I1 q) fun ov s2 ⟨x,H2,I2,rx,a,C,dx,fs,ex,ea,c,n,l,q2⟩=>?_) hs
  subst ex;obtain rfl:ov=Value.ref a:=rx;exact znw I2 ea c n l ry fun s3 I3=>⟨σ,_,I3,q2⟩
end
section
variable {X:Cx} {pins:List (Addr×Obj)} {σ : St} {H:Hp} {s:Shared} {A:Around} {E:Value→Shared→Prop} {Q:Value→Shared→Prop} {c:Value} {b:Bool}
end
structure Room (k:Nat) (A:Around):Prop where
  hd:A.handled=none
  dp:A.depth+3*k+5<recursionLimit
  un:A.units+16*k+200<cLine
theorem Room.mono {j k:Nat} {A:Around} (r:Room k A) (h:j≤k):Room j A:=⟨r.hd,by have:=r.dp;omega,by have:=r.un;omega⟩
theorem Room.deeper {k:Nat} {A:Around} (r:Room (k+1) A) (env:Env):Room k (A.deeper env):=
  ⟨r.hd,by have:=r.dp;show A.depth+1+3*k+5<_;omega,by have:=r.un;show A.units+3+16*k+200<_;omega⟩
theorem Room.in1 {k:Nat} {A:Around} (r:Room (k+1) A):Room k A.in1:=
  ⟨r.hd,by have:=r.dp;show A.depth+3*k+5<_;omega,by have:=r.un;show A.units+1+16*k+200<_;omega⟩
theorem znO {A:Around} {C:Addr} {us:List Value} {kw:List (Str×Value)}:(A.under (.builtin "type.__call__" ⟨.ref C::us,kw⟩)).depth=A.depth+1:=by
  first|rfl|simp [Around.under,Code.weight,Code.isCreation,Code.isGuard,Code.isCaller,Code.frames,Code.isFrame,guardIds]
theorem ziJ {A:Around} {C:Addr} {us:List Value} {kw:List (Str×Value)}:(A.under (.builtin "type.__call__" ⟨.ref C::us,kw⟩)).units=A.units+1:=by
  first|rfl|simp [Around.under,Code.cUnits,Code.frames,Code.isFrame]
theorem Room.make {k:Nat} {A:Around} (r:Room (k+1) A) (C:Addr) (us:List Value) (kw:List (Str×Value)):Room k (A.under (.builtin "type.__call__" ⟨.ref C::us,kw⟩)):=
  ⟨r.hd,by have:=r.dp;rw [znO];omega,by have:=r.un;rw [ziJ];omega⟩
theorem Room.depth {k:Nat} {A:Around} (r:Room k A):A.depth<recursionLimit:=by have:=r.dp;omega
theorem Room.units {k:Nat} {A:Around} (r:Room k A):A.units+64<cLine:=by have:=r.un;omega
def tNil:TA:=fun _ H Q=>Q [] H
def zmT (ta:TE) (tr:TA):TA:=fun σ H Q=>ta σ H fun x H1=>tr σ H1 fun xs H2=>Q (x::xs) H2
section
variable {X:Cx} {e:Expr} {es:List Expr} {te:TE} {t:TA} {pos:Pos}
theorem zQ:PA X [] tNil:=fun _ _ _ _ H Q I h=>Calls.spliced_nil ⟨[],H,I,.nil,h⟩
theorem zR (ha:PE X e te) (hr:PA X es t) (hs:starEach (e::es) X.env=(false,eval e X.env)::starEach es X.env:=by rfl):PA X (e::es) (zmT te t):=by
  intro pos pins s σ H Q I h;rw [hs];show wpAny _ _ (spliced ((false,eval e X.env)::backTo pos (starEach es X.env))) _ _ s;refine Calls.spliced_cons (thn (ha pins s σ H _ I h) fun u s1 ⟨x,H1,I1,r1,q1⟩=>?_)
  exact thn (hr pos pins s1 σ H1 _ I1 q1) fun us s2 ⟨xs,H2,I2,r2,q2⟩=>⟨x::xs,H2,I2,.cons r1 r2,q2⟩
def tTup (t:TA):TE:=fun σ H Q=>t σ H fun xs H1=>xs.length≤sizeLine∧∀ p,H1 p=none→Q (.ref p) (upd H1 p (.tup xs))
def tLst (t:TA):TE:=fun σ H Q=>t σ H fun xs H1=>xs.length≤sizeLine∧∀ p,H1 p=none→Q (.ref p) (upd H1 p (.lst xs))
theorem ze2 {x1} (h:PA X es t):PE X (.Tuple es x1 pos) (tTup t):=by
  intro pins s σ H Q I hq;refine wpAny_Tuple_spliced (thn (h pos pins s σ H _ I hq) fun us s1 ⟨xs,H1,I1,r,z,q⟩=>⟨by rw [←r.length];exact z,?_⟩)
  have hf:H1 s1.heap.objs.size=none:=I1.hok.fresh (Nat.le_refl _);refine⟨.ref s1.heap.objs.size,upd H1 s1.heap.objs.size (.tup xs),I1.laid (t':=s1.toks) (fun b u e=>Heap.get?_push_of_some _ e) (Nat.le_refl _) ?_,rfl,q _ hf⟩
  exact⟨z,us,r,⟨_,Heap.get?_push_size _ rfl,rfl,_,rfl⟩⟩
theorem jT (h:PA X es t):PE X (.List es pos) (tLst t):=by
  intro pins s σ H Q I hq;refine wpAny_List_spliced (thn (h pos pins s σ H _ I hq) fun us s1 ⟨xs,H1,I1,r,z,q⟩=>⟨by rw [←r.length];exact z,?_⟩)
  have hf:H1 s1.heap.objs.size=none:=I1.hok.fresh (Nat.le_refl _);refine⟨.ref s1.heap.objs.size,upd H1 s1.heap.objs.size (.lst xs),I1.laid (t':=s1.toks) (fun b u e=>Heap.get?_push_of_some _ e) (Nat.le_refl _) ?_,rfl,q _ hf⟩
  exact⟨z,us,0,r,Heap.get?_push_size _ rfl⟩
end
abbrev Sp:=List V→Hp→VK→XK→Prop
abbrev CXT:=List Env→Hp→Shared→XK→Value→Shared→Prop
structure Env0 (P:Program) (w:World) (K:PySem.W.Frag) (mg:Str→Option Value) (base:Heap) (A:Around) (outer:List Env) (s:Shared) (H:Hp):Prop where
  frames:A.frames=some outer
  mod:Mod K mg base
  bs:∀ b o,base.get? b=some o→s.heap.get? b=some o∧H b=none
  bsz:base.objs.size≤s.heap.objs.size
  funs:s.heap.FunFrames base outer
  frf:∀ b∈frs outer,H b=none
  hok:HOk P w H s.heap
  bare:AllBare s.gens
def CE (outer:List Env) (P:Program) (w:World) (H:Hp) (s:Shared) (Q:VK) (u:Value) (s':Shared):Prop:=
  ∃ v H',s'.os=s.os∧AllBare s'.gens∧Un (frs outer) [] H H' s.heap s'.heap∧HOk P w H' s'.heap∧RelV v u∧Q v H'
def CR (CX:CXT) (outer:List Env) (P:Program) (w:World) (H:Hp) (s:Shared) (Q:VK) (E:XK) (r:Result) (s':Shared):Prop:=
  match r with
  | .ok (.ret u)=>CE outer P w H s Q u s'
  | .ok _=>False
  | .error e=>CX outer H s E e s'
structure FnOk (P:Program) (w:World) (K:PySem.W.Frag) (mg:Str→Option Value) (base:Heap) (CX:CXT) (k:Nat) (f:Addr) (fd:FuncData) (ps:List Str) (sp:Sp):Prop where
  len:∀ vs H Q E,sp vs H Q E→vs.length=ps.length
  run:∀ (A:Around) (outer:List Env) (s:Shared) (H:Hp) (args:Args) (us:List Value) (vs:List V) (Q:VK) (E:XK),Room k A→Env0 P w K mg base A outer s H→BindsTo s fd args (ps.zip us)→Vals vs us→sp vs H Q E→
    codeAny (model P w) A (.call (.ref f) args) (CR CX outer P w H s Q E) s
theorem FnOk.mono {P:Program} {w:World} {K:PySem.W.Frag} {mg:Str→Option Value} {base:Heap} {CX:CXT} {j k:Nat} {f:Addr} {fd:FuncData} {ps:List Str} {sp:Sp} (F:FnOk P w K mg base CX j f fd ps sp) (h:j≤k) :
    FnOk P w K mg base CX k f fd ps sp:=⟨F.len,fun A outer s H args us vs Q E hr=>F.run A outer s H args us vs Q E (hr.mono h)⟩
theorem FnOk.imp {P:Program} {w:World} {K:PySem.W.Frag} {mg:Str→Option Value} {base:Heap} {CX:CXT} {k:Nat} {f:Addr} {fd:FuncData} {ps:List Str} {sp sp':Sp} (F:FnOk P w K mg base CX k f fd ps sp)
    (h:∀ vs H Q E,sp' vs H Q E→sp vs H Q E):FnOk P w K mg base CX k f fd ps sp':=
  ⟨fun vs H Q E q=>F.len vs H Q E (h _ _ _ _ q),fun A outer s H args us vs Q E hr he hb hv hs=>F.run A outer s H args us vs Q E hr he hb hv (h _ _ _ _ hs)⟩
theorem Env0.make {P:Program} {w:World} {K:PySem.W.Frag} {mg:Str→Option Value} {base:Heap} {A:Around} {outer:List Env} {s:Shared} {H:Hp} (e:Env0 P w K mg base A outer s H) (C:Addr) (us:List Value) (kw:List (Str×Value)) :
    Env0 P w K mg base (A.under (.builtin "type.__call__" ⟨.ref C::us,kw⟩)) outer s H:=⟨by first|exact e.frames|(simpa [Around.under,Code.envs,Code.isFrame,pushEnvs] using e.frames),e.mod,e.bs,e.bsz,e.funs,e.frf,e.hok,e.bare⟩
theorem Env0.in1 {P:Program} {w:World} {K:PySem.W.Frag} {mg:Str→Option Value} {base:Heap} {A:Around} {outer:List Env} {s:Shared} {H:Hp} (e:Env0 P w K mg base A outer s H) :
    Env0 P w K mg base A.in1 outer s H:=⟨e.frames,e.mod,e.bs,e.bsz,e.funs,e.frf,e.hok,e.bare⟩
section
variable {X:Cx} {pins:List (Addr×Obj)} {σ : St} {H:Hp} {s s':Shared}
theorem Inv.env0 (I:Inv X pins σ H s):Env0 X.prog X.w X.K X.mg X.base X.A X.stack s H:=
  ⟨I.ok.frames,I.ok.mod,I.bs,Nat.le_trans I.ok.bsz I.sz,I.stack,I.stkFree,I.hok,I.bare⟩
theorem Inv.after {Q:VK} {u:Value} (I:Inv X pins σ H s) (h:CE X.stack X.prog X.w H s Q u s'):EP X pins σ Q u s':=by
  obtain⟨v,H',os,bare,un,hok,r,q⟩:=h;obtain⟨hh,g,d,t,os'⟩:=s';obtain rfl:os'=s.os:=os;exact⟨v,H',I.call (h':=hh) (g':=g) (d':=d) (t':=t) (ch:=[]) un hok bare (fun b z=>absurd z (by simp)),r,q⟩
end
def zgE (sp:Sp) (dvs:List V) (E:XK) (t:TA):TE:=fun σ H Q=>t σ H fun vs H1=>sp (vs++dvs) H1 Q E
def zof (C:Addr) (m:Str) (sp:Sp) (dvs:List V) (E:XK) (ta:TE) (t:TA):TE:=fun σ H Q=>ta σ H fun x H1=>∃ a dx fs,x=.ref a∧H1 a=some (.ins C dx fs)∧fs.lookup m=none∧
  t σ H1 fun vs H2=>sp (x::(vs++dvs)) H2 Q E
def zoW (C:Addr) (sp:Sp) (dvs:List V) (E:XK) (t:TA):TE:=fun σ H Q=>t σ H fun vs H1=>∀ x dx,H1 x=none→H1 dx=none→dx≠x→
  sp (.ref x::(vs++dvs)) (upd (upd H1 dx (.own x)) x (.ins C dx [])) (fun v H2=>v=.non∧Q (.ref x) H2) E
def Binds (K:PySem.W.Frag) (fd:FuncData) (ps:List Str) (ds:List Value):Prop:=
  ∀ (s:Shared) (us:List Value),K.In s.heap→(us++ds).length=ps.length→BindsTo s fd ⟨us,[]⟩ (ps.zip (us++ds))
theorem Binds.all {K:PySem.W.Frag} {fd:FuncData} {ps:List Str} (h:∀ us:List Value,us.length=ps.length→bindArgs fd ⟨us,[]⟩=pure (ps.zip us)):Binds K fd ps []:=fun s us _ hl=>by
  rw [List.append_nil] at hl ⊢;exact .of_eq (h us hl)
def Passes (CX:CXT) (X:Cx) (E:XK):Prop:=∀ (pins:List (Addr×Obj)) (σ : St) (H:Hp) (s:Shared) (e:Value) (s':Shared),Inv X pins σ H s→CX X.stack H s E e s'→X.xe e s'
section
variable {X:Cx} {CX:CXT} {k:Nat} {f C:Addr} {fd:FuncData} {ps:List Str} {sp:Sp} {dvs:List V} {ds:List Value} {E:XK} {x m:Str} {p pos apos:Pos} {e o:Expr} {es:List Expr} {ta:TE} {t:TA}
theorem zdU {pins:List (Addr×Obj)} {σ : St} {H:Hp} {s:Shared} {Q:VK} {us:List Value} {vs:List V} (F:FnOk X.prog X.w X.K X.mg X.base CX k f fd ps sp) (hr:Room k X.A) (hb:Binds X.K fd ps ds) (hd:Vals dvs ds) (hx:Passes CX X E)
    (I:Inv X pins σ H s) (r:Vals vs us) (h:sp (vs++dvs) H Q E):wpAny (model X.prog X.w) X.A (call (.ref f) us) (EP X pins σ Q) X.xe s:=by
  have r2:Vals (vs++dvs) (us++ds):=r.append hd;have hl:(us++ds).length=ps.length:=by rw [←r2.length];exact F.len _ _ _ _ h
  refine wpAny_call (codeAny_mono (F.run X.A X.stack s H ⟨us,[]⟩ (us++ds) (vs++dvs) Q E hr I.env0 (hb s us I.kIn hl) r2 h) fun r s' hq=>?_)
  cases r with
  | error e=>exact hx pins σ H s e s' I hq
  | ok fl=>
    cases fl with
    | ret u=>exact I.after hq
    | next=>exact False.elim hq
    | brk=>exact False.elim hq
    | cont=>exact False.elim hq
theorem zmL (F:FnOk X.prog X.w X.K X.mg X.base CX k f fd ps sp) (hr:Room k X.A) (hg:Gl X x) (hm:X.mg x=some (.ref f)) (hk:PySem.W.keepIn X.K (.ref f)=true) (hb:Binds X.K fd ps ds) (hd:Vals dvs ds) (hx:Passes CX X E)
    (ha:PA X (e::es) t) (hdb:(x==("__debug__" : Str))=false:=by decide) (he:starEach (e::es) X.env=(false,eval e X.env)::starEach es X.env:=by rfl) (hpl:(backTo pos (starEach es X.env)).any (·.1)=false:=by rfl) :
    PE X (.Call (.Name x p) (e::es) [] pos) (zgE sp dvs E t):=by
  intro pins s σ H Q I h;refine wpAny_Call_Name_kw (ZJ I hg hm ?_ hdb);refine PySem.W.callWith_K (h₀:=X.base) I.ok.mod.kin hk (thn (ha pos pins s σ H _ I h) fun us s1 ⟨vs,H1,I1,r,q⟩=>⟨I1.kIn,?_⟩) he hpl
  exact zdU F hr hb hd hx I1 r q
theorem ziP {pl:Sem Bool} (he:PE X o ta) (c:Cls X.K C) (hm:Meth X.K C m f) (F:FnOk X.prog X.w X.K X.mg X.base CX k f fd ps sp) (hr:Room k X.A) (hb:Binds X.K fd ps ds) (hd:Vals dvs ds) (hx:Passes CX X E) (ha:PA X (e::es) t)
    (hst:starEach (e::es) X.env=(false,eval e X.env)::starEach es X.env:=by rfl) (hpl:(backTo pos (starEach es X.env)).any (·.1)=false:=by rfl)
    (ht:eval (.Call (.Attribute o m apos) (e::es) [] pos) X.env=(do
      let ov ←eval o X.env
      standAt apos.atName
      let (f,first) ←holding [ov] (getMethod ov m pl)
      callWith pos f first (backTo pos (starEach (e::es) X.env)) (backToKw pos (keywordEach [] X.env))):=by rfl) :
    PE X (.Call (.Attribute o m apos) (e::es) [] pos) (zof C m sp dvs E ta t):=by
  intro pins s σ H Q I h;refine PySem.W.methodCall_KW (pl:=pl) (thn (he pins s σ H _ I h) fun u s1 ⟨x,H1,I1,rx,a,dx,fs,ex,ea,l,q⟩=>?_) ht
  subst ex;obtain rfl:u=Value.ref a:=rx;refine zov I1 ea c hm l ?_;refine PySem.W.callWith_K (first:=[.ref a]) (h₀:=X.base) I.ok.mod.kin hm.kp (thn (ha pos pins s1 σ H1 _ I1 q) fun us s2 ⟨vs,H2,I2,r,q2⟩=>⟨I2.kIn,?_⟩) hst hpl
  exact zdU (us:=.ref a::us) (vs:=.ref a::vs) F hr hb hd hx I2 (.cons rfl r) q2
structure Mk (K:PySem.W.Frag) (C f:Addr):Prop where
  makes:PySem.W.makesIn K C=true
  init:PySem.W.findIn K (.ref C) "__init__" = some (some (.ref f))
  fn:PySem.W.isFn K (.ref f)=true
  kp:PySem.W.keepIn K (.ref C)=true
theorem zlI {pins:List (Addr×Obj)} {σ : St} {H:Hp} {s:Shared} {Q:VK} {us:List Value} {vs:List V} (M:Mk X.K C f) (F:FnOk X.prog X.w X.K X.mg X.base CX k f fd ps sp) (hr:Room (k+1) X.A) (hb:Binds X.K fd ps ds) (hd:Vals dvs ds)
    (hx:Passes CX X E) (I:Inv X pins σ H s) (r:Vals vs us)
    (h:∀ x dx,H x=none→H dx=none→dx≠x→sp (.ref x::(vs++dvs)) (upd (upd H dx (.own x)) x (.ins C dx [])) (fun v H2=>v=.non∧Q (.ref x) H2) E) :
    wpAny (model X.prog X.w) X.A (call (.ref C) us) (EP X pins σ Q) X.xe s:=by
  have hq:=h (s.heap.objs.size+1) s.heap.objs.size (I.hok.fresh (Nat.le_succ _)) (I.hok.fresh (Nat.le_refl _)) (Nat.ne_of_lt (Nat.lt_succ_self _));have I2:=Inv.made (C:=C) I;have r2:Vals (V.ref (s.heap.objs.size+1)::(vs++dvs)) (Value.ref (s.heap.objs.size+1)::(us++ds)):=.cons rfl (r.append hd);have hl:(Value.ref (s.heap.objs.size+1)::us++ds).length=ps.length:=by
    have e:=r2.length;rw [F.len _ _ _ _ hq] at e;exact e.symm
  refine wpAny_call (zoO (f:=f) I.kIn M.makes M.init (beq_iff_eq.mp M.fn) (codeAny_mono (F.run _ X.stack _ _ ⟨Value.ref (s.heap.objs.size+1)::us,[]⟩ (Value.ref (s.heap.objs.size+1)::(us++ds)) _ _ E (hr.make C us [])
    (I2.env0.make C us []) (hb _ (Value.ref (s.heap.objs.size+1)::us) I2.kIn hl) r2 hq) fun r s' hq'=>?_))
  cases r with
  | error e=>exact hx pins σ _ _ e s' I2 hq'
  | ok fl=>
    cases fl with
    | ret u=>
      obtain⟨v,H',I3,rv,ev,q3⟩:=I2.after hq';subst ev;exact⟨rv,⟨V.ref (s.heap.objs.size+1),H',I3,rfl,q3⟩⟩
    | next=>exact False.elim hq'
    | brk=>exact False.elim hq'
    | cont=>exact False.elim hq'
theorem zig (M:Mk X.K C f) (F:FnOk X.prog X.w X.K X.mg X.base CX k f fd ps sp) (hr:Room (k+1) X.A) (hg:Gl X x) (hm:X.mg x=some (.ref C)) (hb:Binds X.K fd ps ds) (hd:Vals dvs ds) (hx:Passes CX X E)
    (hdb:(x==("__debug__" : Str))=false:=by decide):PE X (.Call (.Name x p) [] [] pos) (zoW C sp dvs E tNil):=by
  intro pins s σ H Q I h;refine wpAny_Call_Name_kw (ZJ I hg hm ?_ hdb);exact PySem.W.callWith_K0 I.kIn M.kp (zlI (us:=[]) M F hr hb hd hx I .nil h)
end
section
variable {X:Cx} {CX:CXT} {k:Nat} {f C:Addr} {fd:FuncData} {ps ks:List Str} {sp:Sp} {E:XK} {x m:Str} {p pos apos kpos:Pos} {e o:Expr} {es:List Expr} {kws:List Keyword} {te ta:TE} {t tk:TA} {nm:Option Str}
variable {g:List Value→List Value→List Value} {gV:List V→List V→List V}
end
structure FnScope (N P:List Str) (sc:Scope):Prop where
  kind:sc.kind=.function
  co:sc.isCoroutine=false
  gen:sc.isGenerator=false
  nd:N.Nodup
  pre:N.take P.length=P
  par:∀ x∈P,sc.names.lookup x=some .local∨sc.names.lookup x=some .cell
  nofree:∀ y∈sc.names,y.2≠.free
theorem zeO {kindOf:Str→Option NameKind} {x:Str}:∀ {binds:List (Str×Value)} {m:Str→Option Value},(∀ v,(x,v)∉binds)→bindL kindOf binds m x=m x
  | [],_,_=>rfl
  | (n, v) :: r, m, h => by
    unfold bindL;rw [zeO fun w hw=>h w (List.mem_cons_of_mem _ hw)]
    split
    · have:x≠n:=by rintro rfl;exact h v List.mem_cons_self
      simp [this]
    · rfl
theorem zeI {kindOf:Str→Option NameKind} {x:Str}:∀ {binds:List (Str×Value)} {m:Str→Option Value},(∀ v,(x,v)∉binds)→bindC kindOf binds m x=m x
  | [],_,_=>rfl
  | (n, v) :: r, m, h => by
    unfold bindC;rw [zeI fun w hw=>h w (List.mem_cons_of_mem _ hw)]
    split
    · rfl
    · have:x≠n:=by rintro rfl;exact h v List.mem_cons_self
      simp [this]
theorem zhG {kindOf:Str→Option NameKind} {x:Str} {v:Value}:∀ {P:List Str} {vs:List Value} {i:Nat} {m:Str→Option Value},P.Nodup→P[i]?=some x→vs[i]?=some v→kindOf x=some .local→
    bindL kindOf (P.zip vs) m x=some v
  | [],_,_,_,_,h,_,_=>by simp at h
  | _::_,[],_,_,_,_,h,_=>by simp at h
  | p :: P, w :: vs, 0, m, nd, h1, h2, hk => by
    simp at h1 h2;subst h1;subst h2
    show bindL kindOf ((p,w)::P.zip vs) m p=_
    unfold bindL;rw [zeO fun v hv=>(List.nodup_cons.mp nd).1 (List.of_mem_zip hv).1,if_pos hk]
    simp
  | p :: P, w :: vs, i + 1, m, nd, h1, h2, hk => by
    show bindL kindOf ((p,w)::P.zip vs) m x=_
    unfold bindL;exact zhG (i:=i) (List.nodup_cons.mp nd).2 (by simpa using h1) (by simpa using h2) hk
theorem zeS {kindOf:Str→Option NameKind} {x:Str} {v:Value}:∀ {P:List Str} {vs:List Value} {i:Nat} {m:Str→Option Value},P.Nodup→P[i]?=some x→vs[i]?=some v→kindOf x≠some .local→
    bindC kindOf (P.zip vs) m x=some v
  | [],_,_,_,_,h,_,_=>by simp at h
  | _::_,[],_,_,_,_,h,_=>by simp at h
  | p :: P, w :: vs, 0, m, nd, h1, h2, hk => by
    simp at h1 h2;subst h1;subst h2
    show bindC kindOf ((p,w)::P.zip vs) m p=_
    unfold bindC;rw [zeI fun v hv=>(List.nodup_cons.mp nd).1 (List.of_mem_zip hv).1,if_neg hk]
    simp
  | p :: P, w :: vs, i + 1, m, nd, h1, h2, hk => by
    show bindC kindOf ((p,w)::P.zip vs) m x=_
    unfold bindC;exact zeS (i:=i) (List.nodup_cons.mp nd).2 (by simpa using h1) (by simpa using h2) hk
def start (N:List Str) (vs:List V):St:=vs.map some++List.replicate (N.length - vs.length) none
def cxOf (CX:CXT) (P:Program) (w:World) (K:PySem.W.Frag) (mg:Str→Option Value) (base:Heap) (N:List Str) (qual:Str) (scope:Scope) (f:Addr) (cd:Value) (A:Around) (outer:List Env) (s:Shared) (H:Hp) (E:XK):Cx where
  prog:=P
  w:=w
  K:=K
  mg:=mg
  base:=base
  A:=A.deeper (envOfC qual scope s.heap.objs.size f cd)
  N:=N
  s₀:=s
  H₀:=H
  env:=envOfC qual scope s.heap.objs.size f cd
  outer:=outer
  stack:=envOfC qual scope s.heap.objs.size f cd::outer
  ex:=[]
  calm:=true
  fn:=fun _=>true
  pn:=[]
  xe:=fun e s'=>wpAny (model P w) (A.deeper (envOfC qual scope s.heap.objs.size f cd)) (leaving (envOfC qual scope s.heap.objs.size f cd) e) (fun _ s''=>CX outer H s E e s'') (fun e' s''=>CX outer H s E e' s'') s'
theorem zeX {sc:Scope} {n:Nat} {x:Str} (h:sc.names.lookup x=some .cell):∃ c,(cellsFrom n sc.names []).lookup x=some c:=by
  have q:=PySem.W.cellsFrom_some sc.names n [] (.inl h);exact Option.isSome_iff_exists.mp q
theorem zit {CX:CXT} {P:Program} {w:World} {K:PySem.W.Frag} {mg:Str→Option Value} {base:Heap} {N ps:List Str} {qual:Str} {scope:Scope} {f:Addr} {cd:Value} {A:Around} {outer:List Env} {s s1:Shared} {H:Hp} {E:XK} {us:List Value} {vs:List V}
    (S:FnScope N ps scope) (hd:A.handled=none) (e0:Env0 P w K mg base A outer s H) (hl:vs.length=ps.length) (r:Vals vs us)
    (x:InCallC s s.heap.objs.size (bindL (envOfC qual scope s.heap.objs.size f cd).kindOf (ps.zip us) fun _=>none) (cellsFrom (s.heap.objs.size+1) scope.names []) (bindC (envOfC qual scope s.heap.objs.size f cd).kindOf (ps.zip us) fun _=>none) s1) :
    Inv (cxOf CX P w K mg base N qual scope f cd A outer s H E) [] (start N vs) H s1:=by
  have hpl:ps.length≤N.length:=by have:=congrArg List.length S.pre;rw [List.length_take] at this;omega
  obtain⟨h1,tk,rfl,hk⟩:=x.done;have noA:∀ b:Addr,b∉(cxOf CX P w K mg base N qual scope f cd A outer s H E).ex:=fun b z=>absurd (show b∈([]:List Addr) from z) (by simp)
  refine⟨⟨e0.mod,S.kind,rfl,rfl,Nat.le_refl _,fun y z c h1 h2=>?_,fun y hy=>?_,fun y c _ h=>?_,fun _=>hd,Around.frames_deeper e0.frames,.inr ⟨rfl,rfl⟩,fun b z=>absurd z (noA b),e0.bs,e0.bsz,fun b _ _=>noA b,fun b z=>absurd z (noA b),e0.funs,e0.frf⟩,
    rfl,e0.bare,Un.kept hk,⟨_,x.toInCall.ns,fun i y v h1 h2 h3=>?_⟩,fun y c h=>⟨_,x.cell y c h⟩,e0.hok.fresh (Nat.le_refl _),fun y c h=>?_,fun p hp=>absurd (show p∈([]:List (Addr×Obj)) from hp) (by simp),e0.hok.kept hk,?_⟩
  · exact name_of_addr x.apart (PySem.mem_of_lookup h1) (PySem.mem_of_lookup h2)
  · have hy:scope.names.lookup y=some .cell∨scope.names.lookup y=some .free:=hy
    rcases hy with hy|hy
    · exact zeX hy
    · exact absurd rfl (S.nofree _ (PySem.mem_of_lookup hy))
  · exact Nat.le_of_lt (x.above y c (PySem.mem_of_lookup h))
  · have hi:i<vs.length:=by
      unfold start at h2
      by_cases hi:i<vs.length
      · exact hi
      · rw [List.getElem?_append_right (by simpa using hi)] at h2
        rw [List.getElem?_replicate] at h2
        split at h2<;>cases h2
    have ha:vs[i]?=some v:=by
      unfold start at h2;rw [List.getElem?_append_left (by simpa using hi),List.getElem?_map] at h2
      cases e:vs[i]? with
      | none=>rw [e] at h2;cases h2
      | some a=>rw [e] at h2;cases h2;rfl
    obtain⟨u,hu,rv⟩:=r.get ha;have hp:ps[i]?=some y:=by
      rw [←S.pre,List.getElem?_take_of_lt (by omega)];exact h1
    have ndP:ps.Nodup:=by rw [←S.pre];exact S.nd.sublist (List.take_sublist _ _)
    refine⟨u,rv,?_⟩
    rcases S.par y (List.mem_of_getElem? hp) with k|k
    · exact .inl ⟨k,zhG ndP hp hu k⟩
    · obtain⟨c,e⟩:=zeX (n:=s.heap.objs.size+1) k
      refine .inr ⟨.inl k,c,e,?_⟩
      have q:=x.cell y c e;rw [zeS ndP hp hu (by show scope.names.lookup y≠_;rw [k];decide)] at q
      exact q
  · exact e0.hok.fresh (Nat.le_of_lt (x.above y c (PySem.mem_of_lookup h)))
  · unfold start
    show _=N.length
    rw [List.length_append,List.length_map,List.length_replicate]
    omega
theorem zfO {CX:CXT} {P:Program} {w:World} {K:PySem.W.Frag} {mg:Str→Option Value} {base:Heap} {k:Nat} {f:Addr} {name qual:Str} {params:Arguments} {body:List Stmt} {scope:Scope} {dV kV doc pm cdv ct oc:Value} {an od:Option Addr}
    {osl:Array (Option Value)} {N ps:List Str} {sp:Sp} (lk:K.lookup f=some ⟨oc,od,.func (PySem.W.fnOf name qual params body scope dV kV doc pm an cdv ct),osl⟩) (hcd:PySem.W.codeIn K cdv qual=true) (S:FnScope N ps scope)
    (len:∀ vs H Q E,sp vs H Q E→vs.length=ps.length)
    (hbody:∀ (A:Around) (outer:List Env) (s:Shared) (H:Hp) (vs:List V) (Q:VK) (E:XK),Room k (A.deeper (envOfC qual scope s.heap.objs.size f cdv))→sp vs H Q E→
      ∃ t,PSs (cxOf CX P w K mg base N qual scope f cdv A outer s H E) body t∧t { nx:=fun _ H'=>Q .non H',rt:=Q } (start N vs) H) :
    FnOk P w K mg base CX (k+1) f (PySem.W.fnOf name qual params body scope dV kV doc pm an cdv ct) ps sp:=by
  refine⟨len,fun A outer s H args us vs Q E hr e0 hb r hsp=>?_⟩
  have hl:=len _ _ _ _ hsp;have KX:K.In s.heap:=e0.mod.kin.keeps fun b o e=>(e0.bs b o e).1
  have lim:s.heap.NoLimit:=e0.mod.nolimit.keeps fun b o e=>(e0.bs b o e).1
  have hkind:∀ y∈ps.zip us,scope.names.lookup y.1=some .local∨(scope.names.lookup y.1=some .cell∧((cellsFrom (s.heap.objs.size+1) scope.names []).lookup y.1).isSome=true):=fun⟨n,v⟩ hy=>by
    rcases S.par n (List.of_mem_zip hy).1 with q|q
    · exact .inl q
    · exact .inr ⟨q,PySem.W.cellsFrom_some _ _ _ (.inl q)⟩
  refine codeAny_call_function hr.depth (KX _ _ lk) rfl S.co S.gen rfl (PySem.W.codeRec_of KX hcd) (hb _ _ _ _ ?_)
  refine wpAny_newFunctionEnv_cells S.kind hkind fun env he s1 x=>?_
  subst he;refine⟨lim.keeps x.toInCall.keep,codeAny_func ?_⟩;obtain⟨t,ht,hq⟩:=hbody A outer s H vs Q E (hr.deeper _) hsp;have I:Inv (cxOf CX P w K mg base N qual scope f cdv A outer s H E) [] (start N vs) H s1:=zit S hr.hd e0 hl r x;refine wpAny_mono (ht [] s1 (start N vs) H _ I hq) (fun fl s' hs=>?_) fun e s' hs=>hs
  have fin:∀ {σ':St} {H':Hp} {v:V} {u:Value},Inv (cxOf CX P w K mg base N qual scope f cdv A outer s H E) [] σ' H' s'→RelV v u→Q v H'→CE outer P w H s Q u s':=
    fun {σ' H' v u} J rv q=>⟨v,H',J.os,J.bare,J.base,J.hok,rv,q⟩
  cases fl with
  | ret u=>
    obtain⟨v,σ',H',J,rv,q⟩:=hs;exact fin J rv q
  | next=>
    obtain⟨σ',H',J,q⟩:=hs;exact fin (v:=V.non) (u:=Value.none) J rfl q
  | brk=>
    obtain⟨_,_,_,q⟩:=hs;exact False.elim q
  | cont=>
    obtain⟨_,_,_,q⟩:=hs;exact False.elim q
section
variable {X:Cx} {x:Str} {p pos:Pos} {e:Expr} {es:List Expr} {t:TA} {id T:String} {r:List V→Hp→VK→Prop}
def tCB (r:List V→Hp→VK→Prop) (t:TA):TE:=fun σ H Q=>t σ H fun vs H1=>r vs H1 Q
theorem zcB (hc:zC X (.builtin id) r) (hg:Gl X x) (hm:X.mg x=none) (hv:bootBuiltins x=some (.builtin id)) (ha:PA X (e::es) t) (hn:x≠"__name__":=by decide) (hdb:(x==("__debug__" : Str))=false:=by decide)
    (he:starEach (e::es) X.env=(false,eval e X.env)::starEach es X.env:=by rfl) (hpl:(backTo pos (starEach es X.env)).any (·.1)=false:=by rfl):PE X (.Call (.Name x p) (e::es) [] pos) (tCB r t):=by
  intro pins s σ H Q I h;refine wpAny_Call_Name_kw (Zi I hg hm hv ?_ hn hdb);exact PyProof.Rows.callWith_builtin1 (thn (ha pos pins s σ H _ I h) fun us s1 ⟨vs,H1,I1,r1,q1⟩=>hc pins s1 σ H1 vs us Q I1 r1 q1) he hpl
theorem zeU (hc:zC X (.type T) r) (hg:Gl X x) (hm:X.mg x=none) (hv:bootBuiltins x=some (.type T)) (ha:PA X (e::es) t) (hn:x≠"__name__":=by decide) (hdb:(x==("__debug__" : Str))=false:=by decide)
    (he:starEach (e::es) X.env=(false,eval e X.env)::starEach es X.env:=by rfl) (hpl:(backTo pos (starEach es X.env)).any (·.1)=false:=by rfl):PE X (.Call (.Name x p) (e::es) [] pos) (tCB r t):=by
  intro pins s σ H Q I h;refine wpAny_Call_Name_kw (Zi I hg hm hv ?_ hn hdb);exact PyProof.Rows.callWith_type1 (thn (ha pos pins s σ H _ I h) fun us s1 ⟨vs,H1,I1,r1,q1⟩=>hc pins s1 σ H1 vs us Q I1 r1 q1) he hpl
end
end L2
namespace HT
open PySem PyProof.Rows
section
open PySem.SeqAt
open PySem.AutoSeq1 (wpAny_loadPart')
open PySem.MeetsSeq PySem.MeetsSeq2 PySem.MeetsSeq3
end
section
variable {prog:Program} {w:World} {A:Around} {E:Value→Shared→Prop} {s:Shared}
def sIx (n d:Nat):Option Int→Nat
  | none=>d
  | some v=>if v<0 then(v+(n:Int)).toNat else min v.toNat n
end
end HT
namespace L2
open PySem PySem.Spec PyProof.Rows
abbrev TO:=St→Hp→(Option Int→Hp→Prop)→Prop
def PO (X:Cx) (e:Option Expr) (t:TO):Prop:=
  ∀ (pins:List (Addr×Obj)) (s:Shared) (σ : St) (H:Hp) (Q:Option Int→Hp→Prop),Inv X pins σ H s→t σ H Q→
    wpAny (model X.prog X.w) X.A (evalPart e X.env) (fun u s'=>∃ o H',Inv X pins σ H' s'∧IsPart u o∧Q o H') X.xe s
def tNoPart:TO:=fun _ H Q=>Q none H
def znx (t:TE):TO:=fun σ H Q=>t σ H fun x H1=>∃ i,x=.int i∧Q (some i) H1
theorem znk {ns:List Int}:∀ {us:List Value},Vals (ns.map V.int) us→IntsAre us ns:=by
  induction ns with
  | nil=>intro us r;rw [List.map_nil] at r;cases r;exact .nil
  | cons n ns ih=>
    intro us r;rw [List.map_cons] at r;cases r with
    | cons r1 r2=>
      obtain⟨t,e⟩:=r1;subst e;exact .cons n t (ih r2)
section
variable {X:Cx} {e:Expr} {te:TE} {lo hi:Option Expr} {tl th:TO} {pos p2:Pos}
theorem zlY:PO X none tNoPart:=by
  intro pins s σ H Q I h;rw [evalPart_none];exact wpAny_pure ⟨none,H,I,.none,h⟩
theorem ziv (h:PE X e te):PO X (some e) (znx te):=by
  intro pins s σ H Q I hw;rw [evalPart_some];refine thn (h pins s σ H _ I hw) fun u s1 ⟨x,H1,I1,r1,q1⟩=>?_
  obtain⟨i,rfl,q⟩:=q1;obtain⟨t,rfl⟩:=r1;exact⟨some i,H1,I1,.int i t,q⟩
def SlR (X:Cx) (r:V→Option Int→Option Int→Hp→VK→Prop):Prop:=
  ∀ (pins:List (Addr×Obj)) (s:Shared) (σ : St) (H:Hp) (x:V) (v vl vu:Value) (lo hi:Option Int) (sl:Addr) (Q:VK),Inv X pins σ H s→RelV x v→s.heap.IsSliceOf sl vl vu .none→IsPart vl lo→IsPart vu hi→r x lo hi H Q→
    ∃ T id,typeLookup (.type T) "__getitem__" = pure (some (.builtin id))∧s.TypeIs v T∧wpAny (model X.prog X.w) X.A (getItem v (.ref sl)) (EP X pins σ Q) X.xe s
theorem SlR.or {r r':V→Option Int→Option Int→Hp→VK→Prop} (h:SlR X r) (h':SlR X r'):SlR X (fun x lo hi H Q=>r x lo hi H Q∨r' x lo hi H Q):=by
  intro pins s σ H x v vl vu lo hi sl Q I rx hs pl pu q
  rcases q with q|q
  · exact h pins s σ H x v vl vu lo hi sl Q I rx hs pl pu q
  · exact h' pins s σ H x v vl vu lo hi sl Q I rx hs pl pu q
def tSl (r:V→Option Int→Option Int→Hp→VK→Prop) (te:TE) (tl th:TO):TE:=fun σ H Q=>te σ H fun x H1=>tl σ H1 fun l H2=>th σ H2 fun u H3=>r x l u H3 Q
theorem zhH {r:V→Option Int→Option Int→Hp→VK→Prop} (hr:SlR X r) (he:PE X e te) (hl:PO X lo tl) (hu:PO X hi th):PE X (.Subscript e (.Slice lo hi none p2) pos) (tSl r te tl th):=by
  intro pins s σ H Q I h;refine Subscript_ (thn (he pins s σ H _ I h) fun v s1 ⟨x,H1,I1,r1,q1⟩=>?_)
  refine wpAny_Slice (thn (hl pins s1 σ H1 _ I1 q1) fun vl s2 ⟨l,H2,I2,pl,q2⟩=>thn (hu pins s2 σ H2 _ I2 q2) fun vu s3 ⟨u,H3,I3,pu,q3⟩=>?_)
  rw [evalPart_none];refine wpAny_pure ?_;have I4:Inv X pins σ H3 { s3 with heap:=s3.heap.push { cls:=.type "slice", data:=.fields #[vl,vu,.none] } }:=I3.kept (t':=s3.toks) fun b ob q=>Heap.get?_push_of_some _ q
  obtain⟨T,id,hT,ht,hg⟩:=hr pins { s3 with heap:=s3.heap.push { cls:=.type "slice", data:=.fields #[vl,vu,.none] } } σ H3 x v vl vu l u s3.heap.objs.size Q I4 r1 (Heap.IsSliceOf.new ..) pl pu q3
  show wpAny (model X.prog X.w) X.A (subscriptTail e (.Slice lo hi none p2) v (.ref s3.heap.objs.size)) (EP X pins σ Q) X.xe { s3 with heap:=s3.heap.push { cls:=.type "slice", data:=.fields #[vl,vu,.none] } }
  exact tail_any (ops:=[.ref s3.heap.objs.size,v]) ht hT hg (by with_unfolding_all rfl)
def cutV (xs:List V) (lo hi:Option Int):List V:=(xs.drop (HT.sIx xs.length 0 lo)).take (HT.sIx xs.length xs.length hi - HT.sIx xs.length 0 lo)
theorem zoy (xs:List V) (lo hi:Option Int):(cutV xs lo hi).length≤xs.length:=by
  unfold cutV;rw [List.length_take,List.length_drop]
  omega
theorem Vals.nil_iff {xs:List V} {us:List Value} (r:Vals xs us):us=[]↔xs=[]:=by
  cases r with
  | nil=>simp
  | cons _ _=>simp
end
def ixN (n:Nat) (i:Int):Option Nat:=if 0≤i then(if i<n then some i.toNat else none) else if -(n:Int)≤i then some (i+n).toNat else none
def atI {α : Type} (xs:List α) (i:Int):Option α:=(ixN xs.length i).bind fun j=>xs[j]?
theorem zhi {n:Nat} {i:Int} {j:Nat} (h:ixN n i=some j):seqIndex? i n=some j∧j<n∧-(n:Int)≤i∧i<n:=by
  unfold ixN at h
  by_cases h0:0≤i
  · rw [if_pos h0] at h
    by_cases h1:i<n
    · rw [if_pos h1] at h
      have e:i.toNat=j:=Option.some.inj h;exact⟨by rw [seqIndex_of h0 h1,e],by omega,by omega,h1⟩
    · rw [if_neg h1] at h;cases h
  · rw [if_neg h0] at h
    by_cases h1:-(n:Int)≤i
    · rw [if_pos h1] at h
      have e:(i+n).toNat=j:=Option.some.inj h;exact⟨by rw [seqIndex_neg (by omega) h1,e],by omega,h1,by omega⟩
    · rw [if_neg h1] at h;cases h
theorem zbM {α : Type} {xs:List α} {i:Int} {v:α} (h:atI xs i=some v):∃ j,seqIndex? i xs.length=some j∧xs[j]?=some v∧j<xs.length∧-(xs.length:Int)≤i∧i<xs.length:=by
  unfold atI at h;cases e:ixN xs.length i with
  | none=>rw [e] at h;cases h
  | some j=>
    rw [e] at h;obtain⟨h1,h2,h3,h4⟩:=zhi e;exact⟨j,h1,h,h2,h3,h4⟩
theorem Jb {α : Type} {xs:List α} {j:Nat} {v:α} (h:xs[j]?=some v):atI xs (j:Int)=some v:=by
  have hj:j<xs.length:=(List.getElem?_eq_some_iff.mp h).1;have e:ixN xs.length (j:Int)=some j:=by
    unfold ixN;rw [if_pos (by omega),if_pos (by omega)];simp
  unfold atI;rw [e];exact h
def JA (b:Expr):Prop:=∀ o i,subscripted b false o i=operate [o,i] (getItem o i)
def IxR (X:Cx) (r:R2):Prop:=
  ∀ (value slice:Expr) (pins:List (Addr×Obj)) (s:Shared) (σ : St) (H:Hp) (x y:V) (v u:Value) (Q:VK),Inv X pins σ H s→RelV x v→RelV y u→r x y H Q→
    subscripted slice false v u=operate [v,u] (getItem v u)→wpAny (model X.prog X.w) X.A (subscriptTail value slice v u) (EP X pins σ Q) X.xe s
def MtR (X:Cx) (id:String) (r:V→List V→Hp→VK→Prop):Prop:=
  ∀ (pins:List (Addr×Obj)) (s:Shared) (σ : St) (H:Hp) (x:V) (xs:List V) (v:Value) (us:List Value) (Q:VK),Inv X pins σ H s→RelV x v→Vals xs us→r x xs H Q→
    wpAny (model X.prog X.w) X.A (call (.builtin id) (v::us)) (EP X pins σ Q) X.xe s
section
variable {X:Cx} {a b:Expr} {ta tb:TE} {pos:Pos}
theorem IxR.or {r r':R2} (h:IxR X r) (h':IxR X r'):IxR X (fun x y H Q=>r x y H Q∨r' x y H Q):=by
  intro value slice pins s σ H x y v u Q I rx ry q hs
  rcases q with q|q
  · exact h value slice pins s σ H x y v u Q I rx ry q hs
  · exact h' value slice pins s σ H x y v u Q I rx ry q hs
theorem MtR.or {id:String} {r r':V→List V→Hp→VK→Prop} (h:MtR X id r) (h':MtR X id r'):MtR X id (fun x xs H Q=>r x xs H Q∨r' x xs H Q):=by
  intro pins s σ H x xs v us Q I rx rs q
  rcases q with q|q
  · exact h pins s σ H x xs v us Q I rx rs q
  · exact h' pins s σ H x xs v us Q I rx rs q
theorem zaj {r:R2} (hr:IxR X r) (ha:PE X a ta) (hb:PE X b tb) (hs:JA b):PE X (.Subscript a b pos) (tOp r ta tb):=by
  intro pins s σ H Q I h;exact Subscript_ (binT ha hb I h fun v u s2 x y H2 I2 rx ry q=>hr a b pins s2 σ H2 x y v u Q I2 rx ry q (hs _ _))
def rIxL (K:PySem.W.Frag):R2:=fun x y H Q=>∃ p xs i v,x=.ref p∧y=.int i∧SqL K H p xs∧atI xs i=some v∧Q v H
def rIxT (K:PySem.W.Frag):R2:=fun x y H Q=>∃ p xs i v,x=.ref p∧y=.int i∧SqT K H p xs∧atI xs i=some v∧Q v H
def rIxS:R2:=fun x y H Q=>∃ z i c,x=.str z∧y=.int i∧z.length≤sizeLine∧atI z.cps.toList i=some c∧Q (.str ⟨#[c]⟩) H
theorem zbu:IxR X (rIxL X.K):=by
  intro value slice pins s σ H x y v u Q I rx ry h hs;obtain⟨p,xs,i,z,rfl,rfl,hq,he,q⟩:=h;cases rx;obtain⟨t,rfl⟩:=ry;obtain⟨its,r,pl,hz⟩:=I.list hq;obtain⟨j,h1,h2,h3,h4,h5⟩:=zbM he;obtain⟨w,ew,rw'⟩:=r.get h2;have hl:=r.length;have hn:=Jt;have fin:EP X pins σ Q w s:=⟨z,H,I,rw',q⟩
  by_cases h0:0≤i
  · have hj:i.toNat=j:=by
      rw [seqIndex_of h0 h5] at h1;exact Option.some.inj h1
    exact item_listR pl.isList h0 (by omega) (by rw [hj];simpa using ew) fin hs
  · have hj:(i+(its.toArray.size:Int)).toNat=j:=by
      rw [seqIndex_neg (by omega) h4] at h1
      rw [List.size_toArray,←hl];exact Option.some.inj h1
    exact subscriptTail_builtinR (x:=w) pl.isList.typeIs slot_list_getitem.lookup
      (wpAny_getItem_list_neg (Q:=fun r s'=>r=w∧EP X pins σ Q r s') pl.isList (by omega) (by rw [List.size_toArray]<;>omega) (by omega) (by rw [hj];simpa using ew) ⟨rfl,fin⟩) hs
theorem zi0:IxR X (rIxT X.K):=by
  intro value slice pins s σ H x y v u Q I rx ry h hs;obtain⟨p,xs,i,z,rfl,rfl,hq,he,q⟩:=h;cases rx;obtain⟨t,rfl⟩:=ry;obtain⟨its,r,pl,hz⟩:=I.tuple hq;obtain⟨j,h1,h2,h3,h4,h5⟩:=zbM he;obtain⟨w,ew,rw'⟩:=r.get h2;have hl:=r.length;have hn:=Jt;have fin:EP X pins σ Q w s:=⟨z,H,I,rw',q⟩;exact subscriptTail_builtinR (x:=w) pl.typeIs slot_tuple_getitem.lookup
    (getItem_tuple (j:=j) (Q:=fun r s'=>r=w∧EP X pins σ Q r s') pl (by omega) (by omega) (by rw [List.size_toArray,←hl];exact h1) (by simpa using ew) ⟨rfl,fin⟩) hs
theorem zjV:IxR X rIxS:=by
  intro value slice pins s σ H x y v u Q I rx ry h hs;obtain⟨z,i,c,rfl,rfl,hz,he,q⟩:=h;obtain⟨t,rfl⟩:=rx;obtain⟨t',rfl⟩:=ry;obtain⟨j,h1,h2,h3,h4,h5⟩:=zbM he;have hl:z.cps.toList.length=z.length:=by simp [Str.length]
  rw [hl] at h1 h4 h5;have hn:=Jt;exact tail_any (typeIs_str s z t) slot_str_getitem.lookup (getItem_str (c:=c) (by
    have e1:decide (i < -(2 ^ 63:Int))=false:=decide_eq_false (by omega)
    have e2:decide (i≥2 ^ 63)=false:=decide_eq_false (by omega)
    rw [e1,e2,Bool.or_false]) (by rw [h1];simpa using h2) ⟨.str ⟨#[c]⟩,H,I.tok _,⟨_,rfl⟩,q⟩) hs
def rIx (K:PySem.W.Frag):R2:=fun x y H Q=>rIxL K x y H Q∨rIxT K x y H Q∨rIxS x y H Q
theorem zoG:IxR X (rIx X.K):=zbu.or (zi0.or zjV)
theorem zoP (its:List Value) (n j:Nat) (u:Value):Obj.mapSeq (·.setIfInBounds j u) { cls:=.type "list", data:=.seq its.toArray n } = { cls:=.type "list", data:=.seq (its.set j u).toArray n }:=by
  simp [Obj.mapSeq]
theorem Inv.lst {pins:List (Addr×Obj)} {σ : St} {H:Hp} {s:Shared} {p:Addr} {xs:List V} (I:Inv X pins σ H s) (h:H p=some (.lst xs)) :
    ∃ (its:List Value) (n:Nat),Vals xs its∧s.heap.get? p=some { cls:=.type "list", data:=.seq its.toArray n }∧xs.length≤sizeLine:=by
  obtain⟨z,its,n,r,e⟩:=I.hok p _ h;exact⟨its,n,r,e,z⟩
theorem Inv.lstUpd {pins:List (Addr×Obj)} {σ : St} {H:Hp} {s:Shared} {p:Addr} {xs ys:List V} {its its':List Value} {n n':Nat} {f:Obj→Obj} (I:Inv X pins σ H s) (h:H p=some (.lst xs))
    (ho:s.heap.get? p=some { cls:=.type "list", data:=.seq its.toArray n }) (hf:f { cls:=.type "list", data:=.seq its.toArray n } = { cls:=.type "list", data:=.seq its'.toArray n' }) (r:Vals ys its') (hz:ys.length≤sizeLine) (t:Nat) :
    Inv X pins σ (upd H p (.lst ys)) { s with heap:=s.heap.update p f,toks:=t }:=by
  have e:(s.heap.update p f).get? p=some { cls:=.type "list", data:=.seq its'.toArray n' }:=by
    rw [Heap.get?_update_self f ho (by rw [hf]<;>rfl),hf]
  refine I.write (x:=p) (e:=p) (by rw [h];trivial) (.inl rfl) (fun b u hb q=>(Heap.get?_update_other _ _ (Ne.symm hb)).trans q) ⟨_,e⟩ ?_
  exact⟨hz,its',n',r,e⟩
def rSetL:V→V→V→Hp→(Hp→Prop)→Prop:=fun o i v H Q=>∃ p xs k j,o=.ref p∧i=.int k∧H p=some (.lst xs)∧ixN xs.length k=some j∧Q (upd H p (.lst (xs.set j v)))
theorem zbL:PSet X rSetL:=by
  intro pins s σ H o i v ov iv u Q I ro ri rv h;obtain⟨p,xs,k,j,rfl,rfl,hp,hj,q⟩:=h;cases ro;obtain⟨t,rfl⟩:=ri;obtain⟨its,n,r,ho,hz⟩:=I.lst hp;obtain⟨h1,h2,h3,h4⟩:=zhi hj;have hl:=r.length;have hn:=Jt;have I':Inv X pins σ (upd H p (.lst (xs.set j v))) { s with heap:=s.heap.update p (Obj.mapSeq (·.setIfInBounds j u)) }:=
    I.lstUpd hp ho (zoP its n j u) (r.set rv j) (by rw [List.length_set];exact hz) s.toks
  by_cases h0:0≤k
  · have hk:k.toNat=j:=by
      rw [seqIndex_of h0 h4] at h1;exact Option.some.inj h1
    exact PySem.W.ki_setAt ho h0 (by omega) (by rw [List.size_toArray,←hl];exact h4) (by rw [hk];exact⟨_,I',q⟩)
  · have hk:(k+(its.toArray.size:Int)).toNat=j:=by
      rw [seqIndex_neg (by omega) h3] at h1
      rw [List.size_toArray,←hl];exact Option.some.inj h1
    exact PySem.W.ki_setBack ho (by omega) (by rw [List.size_toArray,←hl];exact h3) (by omega) (by rw [hk];exact⟨_,I',q⟩)
theorem zju (lo hi:Option Int) (n:Nat):(sliceBounds lo hi none n).1=((HT.sIx n 0 lo:Nat):Int)∧(sliceBounds lo hi none n).2.1=((HT.sIx n n hi:Nat):Int)∧(sliceBounds lo hi none n).2.2=1:=by
  refine⟨?_,?_,rfl⟩
  · cases lo with
    | none=>simp [sliceBounds,HT.sIx]
    | some i=>
      simp only [sliceBounds,HT.sIx,Option.getD_none,show(1:Int) > 0 by decide,if_true]
      by_cases h:i<0
      · simp only [h,if_true]<;>omega
      · simp only [h,if_false]<;>omega
  · cases hi with
    | none=>simp [sliceBounds,HT.sIx]
    | some i=>
      simp only [sliceBounds,HT.sIx,Option.getD_none,show(1:Int) > 0 by decide,if_true]
      by_cases h:i<0
      · simp only [h,if_true]<;>omega
      · simp only [h,if_false]<;>omega
theorem ziQ (its:List Value) (lo hi:Option Int):slicePick its.toArray lo hi none=((its.drop (HT.sIx its.length 0 lo)).take (HT.sIx its.length its.length hi - HT.sIx its.length 0 lo)).toArray:=by
  obtain⟨h1,h2,h3⟩:=zju lo hi its.toArray.size;unfold slicePick;rw [h1,h2,h3];simp only [sliceRange_one,pick_run,List.size_toArray]<;>rfl
def rSlL (K:PySem.W.Frag):V→Option Int→Option Int→Hp→VK→Prop:=fun x lo hi H Q=>∃ a xs,x=.ref a∧SqL K H a xs∧∀ p,H p=none→Q (.ref p) (upd H p (.lst (cutV xs lo hi)))
theorem zk2:SlR X (rSlL X.K):=by
  intro pins s σ H x v vl vu lo hi sl Q I rx hs pl pu h;obtain⟨a,xs,rfl,hx,q⟩:=h;cases rx;obtain⟨its,r,ht,hz⟩:=I.list hx;have hlen:=r.length;refine⟨"list", _,slot_list_getitem.lookup,ht.isList.typeIs,?_⟩;refine wpAny_getItem_list_slice ht.isList hs pl pu .none (by simp) ?_ (by rw [List.size_toArray]<;>omega)
  rw [ziQ,←hlen];refine⟨.ref s.heap.objs.size,_,I.laid (t':=s.toks) (o:=.lst (cutV xs lo hi)) (fun b ob q=>Heap.get?_push_of_some _ q) (Nat.le_refl _) ?_,rfl,q _ (I.hok.fresh (Nat.le_refl _))⟩
  exact⟨Nat.le_trans (zoy xs lo hi) hz,_,0,(r.drop (HT.sIx xs.length 0 lo)).take (HT.sIx xs.length xs.length hi - HT.sIx xs.length 0 lo),Heap.get?_push_size _ rfl⟩
theorem ze6:zC X (.builtin "len") (fun xs H Q=>∃ p ys,xs=[.ref p]∧(SqL X.K H p ys∨SqT X.K H p ys)∧Q (.int ys.length) H):=by
  intro pins s σ H xs us Q I r h;obtain⟨p,ys,rfl,hq,q⟩:=h;obtain⟨u,rfl,rx⟩:=jO r;cases rx;have hn:=Jt
  rcases hq with hq|hq
  · obtain⟨its,r',pl,hz⟩:=I.list hq
    have hlen:=r'.length;exact Calls.call_len_list pl.isList (by simp only [List.size_toArray]<;>omega) ⟨.int ys.length,H,I.tok _,⟨s.toks+1,by rw [List.size_toArray,hlen]⟩,q⟩
  · obtain⟨its,r',pl,hz⟩:=I.tuple hq
    have hlen:=r'.length;exact len_tuple pl (by simp only [List.size_toArray]<;>omega) ⟨.int ys.length,H,I.tok _,⟨s.toks+1,by rw [List.size_toArray,hlen]⟩,q⟩
theorem znU:zC X (.builtin "len") (fun xs H Q=>∃ z,xs=[.str z]∧z.length≤sizeLine∧Q (.int z.length) H):=by
  intro pins s σ H xs us Q I r h;obtain⟨z,rfl,hz,q⟩:=h;obtain⟨u,rfl,t,rfl⟩:=jO r;have hn:=Jt;exact len_str (by omega) ⟨.int z.length,H,I.tok _,⟨_,rfl⟩,q⟩
theorem zC.or {f:Value} {r r':List V→Hp→VK→Prop} (h:zC X f r) (h':zC X f r'):zC X f (fun xs H Q=>r xs H Q∨r' xs H Q):=by
  intro pins s σ H xs us Q I rs q
  rcases q with q|q
  · exact h pins s σ H xs us Q I rs q
  · exact h' pins s σ H xs us Q I rs q
theorem zoz:zC X (.type "list") (fun xs H Q=>∃ p ys,xs=[.ref p]∧(SqL X.K H p ys∨SqT X.K H p ys)∧∀ l,H l=none→Q (.ref l) (upd H l (.lst ys))):=by
  intro pins s σ H xs us Q I r h;obtain⟨p,ys,rfl,hq,q⟩:=h;obtain⟨u,rfl,rx⟩:=jO r;cases rx;have fin:∀ (its:List Value),Vals ys its→ys.length≤sizeLine→∀ (h':Heap) (c':Nat),(∀ b o',s.heap.get? b=some o'→h'.get? b=some o')→
      h'.get? s.heap.objs.size=some { cls:=.type "list", dict:=none,data:=.seq its.toArray c',slots:=#[] }→EP X pins σ Q (.ref s.heap.objs.size) { s with heap:=h' }:=fun its r' hz h' c' kp e=>
    ⟨.ref s.heap.objs.size,_,I.laid (t':=s.toks) kp (Nat.le_refl _) (show zK X.prog X.w _ h' _ (.lst ys) from⟨hz,its,c',r',e⟩),rfl,q _ (I.hok.fresh (Nat.le_refl _))⟩
  rcases hq with hq|hq
  · obtain⟨its,r',pl,hz⟩:=I.list hq
    have hlen:=r'.length;obtain⟨o,ho,hc,n,hd⟩:=pl.isList;exact call_list_seq p (.inl rfl) ho hc hd (fun h' c' kp e=>fin its r' hz h' c' kp e) (by simp only [List.size_toArray]<;>omega)
  · obtain⟨its,r',pl,hz⟩:=I.tuple hq
    have hlen:=r'.length;obtain⟨o,ho,hc,n,hd⟩:=pl;exact call_list_seq p (.inr rfl) ho hc hd (fun h' c' kp e=>fin its r' hz h' c' kp e) (by simp only [List.size_toArray]<;>omega)
def tyV (K:PySem.W.Frag) (T:String) (x:V) (H:Hp):Prop:=match x with
  | .str _=>T = "str"
  | .int _=>T = "int"
  | .ref p => (T = "list" ∧ ∃ xs, SqL K H p xs) ∨ (T = "tuple" ∧ ∃ o, K.lookup p = some o ∧ o.cls = .type "tuple" ∧ o.dict = none) ∨
      (T = "dict"∧((∃ kvs,H p=some (.dK kvs))∨∃ kvs,H p=some (.dT kvs)))∨(T = "set"∧∃ S n,H p=some (.set S n))
  | _=>False
theorem znr {pins:List (Addr×Obj)} {σ : St} {H:Hp} {s:Shared} {T:String} {x:V} {v:Value} (I:Inv X pins σ H s) (r:RelV x v) (ty:tyV X.K T x H) :
    s.TypeIs v T∧∀ a,v=.ref a→∃ ob,s.heap.get? a=some ob∧ob.dict=none:=by
  cases x with
  | str z=>
    obtain⟨t,rfl⟩:=r;cases(show T = "str" from ty)
    exact⟨typeIs_str s z t,fun _ e=>nomatch e⟩
  | int i=>
    obtain⟨t,rfl⟩:=r;cases(show T = "int" from ty)
    exact⟨typeIs_int s i t,fun _ e=>nomatch e⟩
  | ref p=>
    cases r
    rcases ty with ⟨rfl,xs,hq⟩|⟨rfl,o,hk,hc,hd⟩|⟨rfl,hk⟩|⟨rfl,S,n,hk⟩
    · obtain⟨its,_,pl,_⟩:=I.list hq
      refine⟨pl.isList.typeIs,fun a e=>?_⟩
      cases e;obtain⟨o,n,e,c,hd,_⟩:=pl
      exact⟨o,e,hd⟩
    · refine⟨⟨o,I.kIn p o hk,hc⟩,fun a e=>?_⟩
      cases e;exact⟨o,I.kIn _ o hk,hd⟩
    · have z:∃ o,s.heap.get? p=some o∧o.ExactDict:=by
        rcases hk with ⟨kvs,hk⟩|⟨kvs,hk⟩
        · obtain⟨_,_,_,_,o,_,_,e,ex,_⟩:=I.hok p _ hk
          exact⟨o,e,ex⟩
        · obtain⟨_,_,_,_,o,_,_,e,ex,_⟩:=I.hok p _ hk
          exact⟨o,e,ex⟩
      obtain⟨o,e,ex⟩:=z;refine⟨⟨o,e,ex.1⟩,fun a e2=>?_⟩
      cases e2;exact⟨o,e,ex.2.1⟩
    · obtain⟨o,_,_,_,e,ex,_⟩:=I.hok p _ hk
      refine⟨⟨o,e,ex.1⟩,fun a e2=>?_⟩
      cases e2;exact⟨o,e,ex.2.1⟩
  | _=>exact False.elim ty
def tBM (K:PySem.W.Frag) (T:String) (r:V→List V→Hp→VK→Prop) (to:TE) (t:TA):TE:=fun σ H Q=>to σ H fun x H1=>tyV K T x H1∧t σ H1 fun xs H2=>r x xs H2 Q
variable {o e:Expr} {es:List Expr} {to:TE} {t:TA} {name:Str} {apos cpos:Pos} {T id:String} {r:V→List V→Hp→VK→Prop}
theorem ZT (pa:PlainAttrs T) (slot:Slot T name id) (hty:typeOf (.builtin id)=pure (.type "method_descriptor")) (hm:MtR X id r) (ho:PE X o to) (ha:PA X (e::es) t)
    (hbase:attributeBase o name X.env (eval o X.env)=eval o X.env:=by rfl)
    (hfew:((backTo cpos (starEach (e::es) X.env)).all (fun x=>!x.1)&&(backToKw cpos (keywordEach [] X.env)).all (fun x=>x.1.isSome)
      && decide ((e::es).length+([]:List Keyword).length+(if([]:List Keyword).isEmpty then 0 else 1)<30))=true:=by rfl)
    (hline:(apos.endLine==cpos.line)=true:=by rfl) (hs:starEach (e::es) X.env=(false,eval e X.env)::starEach es X.env:=by rfl) (hplain:(backTo cpos (starEach es X.env)).any (·.1)=false:=by rfl) :
    PE X (.Call (.Attribute o name apos) (e::es) [] cpos) (tBM X.K T r to t):=by
  intro pins s σ H Q I h;refine wpAny_Call_method_late hbase hfew hline rfl (thn (ho pins s σ H _ I h) fun v s1 ⟨x,H1,I1,r1,ty,q1⟩=>?_)
  obtain⟨h1,h2⟩:=znr I1 r1 ty;refine⟨T,id,pa,slot,hty,h1,h2,?_⟩;have hA:=ha cpos pins s1 σ H1 _ I1 q1;rw [hs] at hA ⊢;refine Calls.callWith_builtin (by show(false||(backTo cpos (starEach es X.env)).any (·.1))=false;rw [hplain]<;>rfl) (Calls.evalArgs_plain ?_)
  exact thn hA fun us s2 ⟨vs,H2,I2,r2,q2⟩=>hm pins s2 σ H2 x vs v us Q I2 r1 r2 q2
end
def MtM (X:Cx) (id:String) (r:V→List V→Hp→VK→Prop):Prop:=
  ∀ (pins:List (Addr×Obj)) (s:Shared) (σ : St) (H:Hp) (x:V) (xs:List V) (v:Value) (us:List Value) (Q:VK),Inv X pins σ H s→RelV x v→Vals xs us→r x xs H Q→
    wpAny (model X.prog X.w) X.A (call (.builtin id) (v::us)) (EP X pins σ Q) X.xe s
theorem Vals.one:∀ {x:V} {us:List Value},Vals [x] us→∃ u,us=[u]∧RelV x u
  | _,_,.cons r .nil=>⟨_,rfl,r⟩
theorem Vals.two:∀ {x y:V} {us:List Value},Vals [x,y] us→∃ u v,us=[u,v]∧RelV x u∧RelV y v
  | _,_,_,.cons r (.cons q .nil)=>⟨_,_,rfl,r,q⟩
theorem Vals.zero:∀ {us:List Value},Vals [] us→us=[]
  | _,.nil=>rfl
theorem Vals.eraseIdx:∀ {xs:List V} {us:List Value} (i:Nat),Vals xs us→Vals (xs.eraseIdx i) (us.eraseIdx i)
  | _,_,_,.nil=>.nil
  | _,_,0,.cons _ t=>t
  | _,_,i+1,.cons r t=>.cons r (Vals.eraseIdx i t)
theorem Vals.rep {xs:List V} {us:List Value} (h:Vals xs us):∀ k:Nat,Vals (List.replicate k xs).flatten (List.replicate k us).flatten
  | 0=>.nil
  | k + 1 => by
    rw [List.replicate_succ,List.replicate_succ,List.flatten_cons,List.flatten_cons];exact Vals.append h (Vals.rep h k)
theorem zdC (its:List Value):∀ (k:Nat) (acc:List Value),
    List.foldl (fun x1 x2=>x1++x2) acc.toArray (List.replicate k its.toArray)=(acc++(List.replicate k its).flatten).toArray
  | 0,acc=>by simp
  | k + 1, acc => by
    have e:acc.toArray++its.toArray=(acc++its).toArray:=by simp
    have e2:(acc++its)++(List.replicate k its).flatten=acc++(List.replicate (k+1) its).flatten:=by
      rw [List.replicate_succ,List.flatten_cons,List.append_assoc]
    rw [←e2,←zdC its k (acc++its),←e,List.replicate_succ,List.foldl_cons]
section
variable {X:Cx} {pins:List (Addr×Obj)} {σ : St} {H:Hp} {s:Shared} {l b:Addr} {xs ys zs:List V}
theorem Inv.lset {its its':List Value} {n:Nat} {f:Array Value→Array Value} {t':Nat} (I:Inv X pins σ H s) (hH:H l=some (.lst xs))
    (e:s.heap.get? l=some { cls:=.type "list", data:=.seq its.toArray n }) (hf:f its.toArray=its'.toArray) (hv:Vals ys its') (hz:ys.length≤sizeLine) :
    Inv X pins σ (upd H l (.lst ys)) { s with heap:=s.heap.update l (Obj.mapSeq f),toks:=t' }:=by
  have q:=PySem.IsL.update e f;rw [hf] at q;refine I.write (x:=l) (e:=l) (by rw [hH];exact trivial) (.inl rfl) (fun b' u hb hu=>(Heap.get?_update_other s.heap (Obj.mapSeq f) (Ne.symm hb)).trans hu) ⟨_,q⟩ ?_
  exact⟨hz,its',_,hv,q⟩
theorem Inv.lnew {its:List Value} {t':Nat} (I:Inv X pins σ H s) (hv:Vals ys its) (hz:ys.length≤sizeLine) :
    Inv X pins σ (upd H s.heap.objs.size (.lst ys)) { s with heap:=s.heap.push { cls:=.type "list", data:=.seq its.toArray },toks:=t' }:=
  I.laid (fun _ _ q=>Heap.get?_push_of_some _ q) (Nat.le_refl _) ⟨hz,its,0,hv,Heap.get?_push_size _ rfl⟩
theorem Inv.fresh (I:Inv X pins σ H s):H s.heap.objs.size=none:=I.hok.fresh (Nat.le_refl _)
theorem Inv.lstM (I:Inv X pins σ H s) (hH:H l=some (.lst xs)):xs.length≤sizeLine∧∃ (its:List Value) (n:Nat),Vals xs its∧xs.length=its.length∧s.heap.get? l=some { cls:=.type "list", data:=.seq its.toArray n }:=by
  obtain⟨z,its,n,r,e⟩:=I.hok l _ hH;exact⟨z,its,n,r,r.length,e⟩
end
section
variable {X:Cx}
def rAppend:V→List V→Hp→VK→Prop:=fun x vs H Q=>∃ l xs y,x=.ref l∧vs=[y]∧H l=some (.lst xs)∧xs.length<sizeLine∧Q .non (upd H l (.lst (xs++[y])))
theorem zeQ:MtM X "list.append" rAppend:=by
  intro pins s σ H x vs v us Q I rx rv h;obtain⟨l,xs,y,rfl,rfl,hH,hz,q⟩:=h;cases rx;obtain⟨u,rfl,ru⟩:=rv.one;obtain⟨z,its,n,r,hl,e⟩:=I.lstM hH;refine call_meets F.slot_list_append ⟨_,e,rfl⟩ F.entry_list_append (F.args_list_append_2 _ _) (PySem.list_append l its.toArray n u (by rw [List.size_toArray];omega)) ⟨e,?_⟩
  refine⟨.non,_,I.lset (its':=its++[u]) hH e (by simp) (r.append (.cons ru .nil)) ?_,rfl,q⟩
  rw [List.length_append,List.length_singleton]
  omega
theorem zeD {α : Type} (xs:List α) (k:Nat):(List.replicate k xs).flatten.length=k*xs.length:=by
  induction k with
  | zero=>simp
  | succ k ih=>rw [List.replicate_succ,List.flatten_cons,List.length_append,ih,Nat.succ_mul,Nat.add_comm]
end
section
variable {prog:Program} {w:World} {A:Around} {E:Value→Shared→Prop} {s:Shared}
end
section
variable {X:Cx}
end
end L2
namespace Att
open PySem PySem.W PySem.Calls PyProof.Rows
theorem zm6 {P:Params} {h:Heap}:∀ (ns:List Int) (vs:List Value),WellAll P h vs (ns.map WData.int)→IntsAre vs ns:=by
  intro ns
  induction ns with
  | nil=>
    intro vs w;rw [List.map_nil] at w;cases w;exact .nil
  | cons n ns ih=>
    intro vs w;rw [List.map_cons] at w;cases w with
    | cons a b=>
      cases a;exact .cons _ _ (ih _ b)
theorem ziq {l:OpenLaw} {n:Nat} (hn:l.most=some n) {P:Params} {h:Heap} {args:List WData} {vals:List Value}
    (hpre:l.row.toRowW.claim.pre args=true) (hwl:WellAll P h vals args) :
    ∃ a vs ns,vals=[Value.ref a]∧args=[WData.list (ns.map WData.int)]∧h.get? a=some { cls:=.type "list", data:=.seq vs.toArray }∧IntsAre vs ns∧ns.length≤n:=by
  have hsh:WShape.hasAll [] args [.list .int]=true:=(pre_splitW hpre).1;have hc:l.pre.holds [] { args:=args }=true:=(pre_splitW hpre).2;obtain⟨d,r,rfl,h1,h2⟩:=hasAllW_cons hsh;obtain rfl:=hasAllW_nil h2;obtain⟨xs,rfl,h3⟩:=hasW_list h1;obtain⟨ns,rfl⟩:=items_int h3;have hlen:ns.length≤n:=by
    unfold OpenLaw.pre at hc;have h4:(WTm.not (.lt (.lit (.int (n:Int))) (.len (.arg 0)))).holds [] { args:=[.list (ns.map .int)] }=true:=by
      have h4:=(holds_andW hc).1;rw [hn] at h4;exact h4
    have h5:=condW_of h4 (w_not (w_lt w_lit (w_len_list (w_arg rfl))));rw [List.length_map] at h5;refine Nat.le_of_not_lt fun q=>?_
    have q':(n:Int)<((ns.length:Nat):Int):=by omega
    first
      | (rw [decide_eq_true q'] at h5;exact absurd h5 (by decide))
      | (simp at h5;omega)
  cases hwl with
  | cons w1 w2=>
    cases w2;cases w1 with
    | list ho hall=>exact⟨_,_,ns,rfl,rfl,ho,zm6 ns _ hall,hlen⟩
theorem zjf (l:OpenLaw) (args:List WData):l.row.toRowW.claim.post args (.bool true) args=true:=
  postW_of (r:=l.row.toRowW) (X:=(true==true))
    (show WShape.has [] (.bool true) .bool=true by first|rfl|decide|simp [WShape.has,WShape.arms,WShape.armsAll])
    (show(WTm.eq .res (.lit (.bool true))).value [] { args:=args,res:=some (.bool true),after:=args }=some (.bool (true==true)) from w_eq_bool (w_res rfl) w_lit) rfl
theorem attach_call {l:OpenLaw} {n:Nat} {q:Program} {loose:List Str} {XP:(Str→Option Value)→Heap→Prop} {YP:World→Heap→Prop} {d:DefRec}
    (hn:l.most=some n) (hdf:d.params.defaults=[])
    (call:∀ (w:World) (s₀ s₁ : Shared) (mg mb:Str→Option Value) (fa:Addr) (o:Obj) (pm cd doc:Value) (a:Addr) (vs:List Value) (ns:List Int),
      Ground q loose [] XP w s₀ mg mb s₁.heap→YP w s₁.heap→
      s₁.heap.get? fa=some o→o.data=.func (docDef d.name d.params d.body d.scope pm cd doc)→s₁.heap.CodeRec cd d.name→mg d.name=some (.ref fa)→
      s₁.heap.get? a=some { cls:=.type "list", data:=.seq vs.toArray }→IntsAre vs ns→ns.length≤n→s₁.gens = #[]→
      codeAny (model l.prog w) callerA (.call (.ref fa) ⟨[.ref a],[]⟩) (fun r s'=>r=.ok (.ret (.bool true))∧OldK s₁.heap s'.heap∧s'.os=s₁.os∧AllBare s'.gens) s₁) :
    WalkO q loose XP YP l.row.toRowW d [] (fun f vs=>PySem.call f vs):=by
  intro w s₀ s₁ mg mb G Y fa o pm cd doc dV kV ho hd hcd hD hmg hg args vals as hpre hlay hrd hwl hlo;obtain rfl:dV=.none:=Dflts.none hD hdf;obtain rfl:kV=.none:=Dflts.noKw hD;obtain⟨a,vs,ns,rfl,rfl,hobj,hints,hlen⟩:=ziq hn hpre hwl;refine enter_call (codeAny_mono (call w s₀ s₁ mg mb fa o pm cd doc a vs ns G Y ho (fd_plain hd) hcd hmg hobj hints hlen hg) fun r s' hq=>?_)
  obtain⟨rfl,h2,h3,h4⟩:=hq;exact⟨.inl ⟨.bool true,.bool true,[],rfl,fun _=>rfl,.bool true,zjf l _,fun _=>⟨List.Pairwise.nil,fun _ hm=>(nomatch hm)⟩⟩,h2,h3,h4⟩
section
variable {prog:Program} {w:World} {A:Around} {E:Value→Shared→Prop} {s:Shared} {K:Frag}
end
end Att
namespace L2
open PySem PySem.Spec PyProof.Rows
theorem zgc:∀ {vs:List Value} {ns:List Int},IntsAre vs ns→Vals (ns.map V.int) vs
  | _,_,.nil=>.nil
  | _,_,.cons n t h=>.cons ⟨t,rfl⟩ (zgc h)
def Only (H:Hp):Prop:=∀ b,H b=none∨∃ o xs,H b=some (.frz o (.lst xs))
theorem zk0 {P:Program} {w:World} {K:PySem.W.Frag} {mg mb:Str→Option Value} {CX:CXT} {k:Nat} {fa a:Addr} {fd:FuncData} {x:Str} {sp:Sp} {s₁ : Shared} {vs:List Value} {ns:List Int}
    (KX:K.In s₁.heap) (hns:s₁.heap.Ns mainGlobals mg) (hb:s₁.heap.Ns builtinsNs mb) (hbb:∀ x:Str,x≠"__name__"→mb x=bootBuiltins x) (hlim:s₁.heap.NoLimit) (hg:s₁.gens = #[])
    (ha:s₁.heap.get? a=some { cls:=.type "list", data:=.seq vs.toArray }) (hi:IntsAre vs ns) (hl:ns.length≤sizeLine) (hr:Room k callerA)
    (F:∀ base:Heap,K.In base→base.Ns mainGlobals mg→FnOk P w K mg base CX k fa fd [x] sp) (hbind:∀ (s:Shared) (u:Value),BindsTo s fd ⟨[u],[]⟩ [(x,u)])
    (hsp:∀ H:Hp,Only H→SqL K H a (ns.map V.int)→sp [.ref a] H (fun v _=>v=.bl true) fun _ _ _=>False)
    (hCX:∀ H e s',CX [] H s₁ (fun _ _ _=>False) e s'→False) :
    codeAny (model P w) callerA (.call (.ref fa) ⟨[.ref a],[]⟩) (fun r s'=>r=.ok (.ret (.bool true))∧OldK s₁.heap s'.heap∧s'.os=s₁.os∧AllBare s'.gens) s₁:=by
  have rv:=zgc hi;have lenV:=hi.length;have core:∀ H:Hp,Only H→SqL K H a (ns.map V.int)→HOk P w H s₁.heap→(∀ b,H b≠none→b=a)→(H a≠none→K.lookup a=none)→
      codeAny (model P w) callerA (.call (.ref fa) ⟨[.ref a],[]⟩) (fun r s'=>r=.ok (.ret (.bool true))∧OldK s₁.heap s'.heap∧s'.os=s₁.os∧AllBare s'.gens) s₁:=by
    intro H hO hS hok hA hK;have base_of:∀ {b:Addr} {o:Obj},s₁.heap.get? b=some o→H b=none→(hidT s₁.heap H).get? b=some o:=fun e n=>zh1 e n
    have noA:∀ {b:Addr} {o:Obj} {es:Array DictEntry} {ep:Nat},s₁.heap.get? b=some o→o.data=.dict es ep→H b=none:=fun {b o es ep} e d=>by
      cases q:H b with
      | none=>rfl
      | some u=>
        have e':b=a:=hA b (by rw [q];simp)
        subst e';rw [ha] at e;cases e;have d':Data.seq vs.toArray _=Data.dict es ep:=d;cases d'
    have nsK:∀ {b:Addr} {m:Str→Option Value},s₁.heap.Ns b m→(hidT s₁.heap H).Ns b m:=fun {b m} ⟨o,es,ep,e,d,r⟩=>⟨o,es,ep,base_of e (noA e d),d,r⟩
    have hKb:K.In (hidT s₁.heap H):=fun b o e=>base_of (KX b o e) (by
      cases q:H b with
      | none=>rfl
      | some u=>
        have e':b=a:=hA b (by rw [q];simp)
        subst e';rw [hK (by rw [q];simp)] at e;cases e)
    have hM:Mod K mg (hidT s₁.heap H):=⟨hKb,nsK hns,⟨mb,nsK hb,hbb⟩,let ⟨mc,h1,h2⟩:=hlim;⟨mc,nsK h1,h2⟩⟩;have e0:Env0 P w K mg (hidT s₁.heap H) callerA [] s₁ H:=⟨rfl,hM,fun b o e=>zlH e,Nat.le_of_eq (zlR _ _),trivial,fun b hb=>absurd (show b∈([]:List Addr) from hb) (by simp),hok,.of_eq hg⟩
    refine codeAny_mono ((F _ hKb (nsK hns)).run callerA [] s₁ H ⟨[.ref a],[]⟩ [.ref a] [.ref a] _ _ hr e0 (hbind s₁ (.ref a)) (.cons rfl .nil) (hsp H hO hS)) fun r s' h=>?_
    cases r with
    | error e=>exact(hCX H e s' h).elim
    | ok fl=>
      cases fl with
      | next=>exact False.elim h
      | brk=>exact False.elim h
      | cont=>exact False.elim h
      | ret u=>
        obtain⟨v,H',os,bare,un,hok',r',q⟩:=h;have q':v=.bl true:=q;subst q';obtain rfl:u=Value.bool true:=r';refine⟨rfl,OldK.of_keep fun b o e=>?_,os,bare⟩
        cases q:H b with
        | none=>exact un.keep b o e q (by intro z;exact absurd (show b∈([]:List Addr) from z) (by simp)) (by simp)
        | some u=>
          rcases hO b with z|⟨ob,xs,z⟩
          · rw [q] at z;cases z
          · have z2:=un.frzs b ob _ z
            obtain⟨e1,_⟩:=hok b _ z;obtain⟨e2,_⟩:=hok' b _ z2;rw [e] at e1;cases e1;exact e2
  cases hk:K.lookup a with
  | some o=>
    have e:=KX a o hk;rw [ha] at e;cases e;refine core (fun _=>none) (fun _=>.inl rfl) (.inr ⟨_,vs.toArray,_,hk,rfl,rfl,rfl,by rw [List.size_toArray,lenV];exact hl,by simpa using rv⟩) (fun b u z=>by have z':(none:Option HO)=some u:=z;cases z') (fun b z=>absurd rfl z) fun z=>absurd rfl z
  | none=>
    refine core (fun b=>if b=a then some (.frz { cls:=.type "list", data:=.seq vs.toArray } (.lst (ns.map V.int))) else none) (fun b=>?_) (.inl (.inr ⟨{ cls:=.type "list", data:=.seq vs.toArray },if_pos rfl⟩)) (fun b u z=>?_) (fun b z=>?_) fun _=>hk
    · by_cases hb:b=a
      · exact .inr ⟨_,_,if_pos hb⟩
      · exact .inl (if_neg hb)
    · by_cases hb:b=a
      · have z':=(if_pos hb).symm.trans z
        cases z';subst hb
        exact⟨ha,by rw [List.length_map];exact hl,vs,_,rv,ha⟩
      · have z':=(if_neg hb).symm.trans z
        cases z'
    · by_cases hb:b=a
      · exact hb
      · exact absurd (if_neg hb) z
theorem zjy {l:PySem.W.OpenLaw} {n k:Nat} {q:Program} {loose:List Str} {XP:(Str→Option Value)→Heap→Prop} {YP:World→Heap→Prop} {d:DefRec} {K:Params→PySem.W.Frag} {CX:World→CXT} {sp:World→Sp} {x:Str}
    (hn:l.most=some n) (hn2:n≤sizeLine) (hdf:d.params.defaults=[]) (hr:Room k callerA)
    (hY:∀ (w:World) (h:Heap),YP w h→(K w.params).In h)
    (F:∀ (w:World) (mg:Str→Option Value) (fa:Addr) (h:Heap),(K w.params).In h→h.Ns mainGlobals mg→mg d.name=some (.ref fa)→
      ∃ fd:FuncData,(∀ (s:Shared) (u:Value),BindsTo s fd ⟨[u],[]⟩ [(x,u)])∧
        ∀ base:Heap,(K w.params).In base→base.Ns mainGlobals mg→FnOk l.prog w (K w.params) mg base (CX w) k fa fd [x] (sp w))
    (hsp:∀ (w:World) (H:Hp) (a:Addr) (ns:List Int),ns.length≤n→Only H→SqL (K w.params) H a (ns.map V.int)→sp w [.ref a] H (fun v _=>v=.bl true) fun _ _ _=>False)
    (hCX:∀ (w:World) (H:Hp) (s:Shared) (e:Value) (s':Shared),CX w [] H s (fun _ _ _=>False) e s'→False) :
    PySem.W.WalkO q loose XP YP l.row.toRowW d [] (fun f vs=>PySem.call f vs):=by
  refine Att.attach_call hn hdf fun w s₀ s₁ mg mb fa o pm cd doc a vs ns G Y ho hd hcd hmg hobj hints hlen hg=>?_
  have KX:=hY w _ Y;obtain⟨fd,hb,hF⟩:=F w mg fa _ KX G.T.g hmg;exact zk0 KX G.T.g G.T.b G.T.builtins G.T.nolimit hg hobj hints (Nat.le_trans hlen hn2) hr hF hb (fun H hO hS=>hsp w H a ns hlen hO hS) fun H e s'=>hCX w H s₁ e s'
def JT (s:Stmt):Arguments:=match s with
  | .FunctionDef _ a _ _ _ _ _ _ _ _=>a
  | _=>{ posonlyargs:=[],args:=[],vararg:=none,kwonlyargs:=[],kw_defaults:=[],kwarg:=none,defaults:=[] }
def jC (s:Stmt):List Stmt:=match s with
  | .FunctionDef _ _ b _ _ _ _ _ _ _=>b
  | _=>[]
def zf (s:Stmt):Scope:=match s with
  | .FunctionDef _ _ _ _ _ _ sc _ _ _=>sc
  | _=>{ kind:=.function,names:=[],isGenerator:=false,isCoroutine:=false }
abbrev CX0:CXT:=fun _ _ _ _ _ _=>False
structure Fun (K:PySem.W.Frag) (x qual:Str) (st:Stmt) (f:Addr) (fd:FuncData):Prop where
  ex:∃ (oc:Value) (od:Option Addr) (kV doc pm:Value) (an:Option Addr) (cdv ct:Value) (osl:Array (Option Value)),
    fd=PySem.W.fnOf x qual (JT st) (jC st) (zf st) .none kV doc pm an cdv ct∧K.lookup f=some ⟨oc,od,.func fd,osl⟩∧PySem.W.codeIn K cdv qual=true
  kp:PySem.W.keepIn K (.ref f)=true
section
variable {P:Program} {w:World} {K:PySem.W.Frag} {mg:Str→Option Value} {base:Heap}
theorem Fun.ok {x qual:Str} {st:Stmt} {f:Addr} {fd:FuncData} {N ps:List Str} {k:Nat} {sp:Sp} (F:Fun K x qual st f fd) (S:FnScope N ps (zf st)) (len:∀ vs H Q E,sp vs H Q E→vs.length=ps.length)
    (hbody:∀ (cdv:Value) (A:Around) (outer:List Env) (s:Shared) (H:Hp) (vs:List V) (Q:VK) (E:XK),Room k (A.deeper (envOfC qual (zf st) s.heap.objs.size f cdv))→sp vs H Q E→
      ∃ t,PSs (cxOf CX0 P w K mg base N qual (zf st) f cdv A outer s H E).nox (jC st) t∧t { nx:=fun _ H'=>Q .non H',rt:=Q } (start N vs) H):FnOk P w K mg base CX0 (k+1) f fd ps sp:=by
  obtain⟨oc,od,kV,doc,pm,an,cdv,ct,osl,rfl,lk,hcd⟩:=F.ex;refine zfO lk hcd S len fun A outer s H vs Q E hr hsp=>?_
  obtain⟨t,h,q⟩:=hbody cdv A outer s H vs Q E hr hsp;exact⟨t,h.nox,q⟩
theorem Fun.binds {x qual:Str} {st:Stmt} {f:Addr} {fd:FuncData} {ps:List Str} (F:Fun K x qual st f fd)
    (h:∀ (kV doc pm:Value) (an:Option Addr) (cdv ct:Value) (us:List Value),us.length=ps.length→bindArgs (PySem.W.fnOf x qual (JT st) (jC st) (zf st) .none kV doc pm an cdv ct) ⟨us,[]⟩=pure (ps.zip us)):Binds K fd ps []:=by
  obtain⟨oc,od,kV,doc,pm,an,cdv,ct,osl,rfl,lk,hcd⟩:=F.ex;exact .all (h kV doc pm an cdv ct)
theorem zcr {x qual:Str} {st:Stmt} {f:Addr} {oc:Value} {od an:Option Addr} {osl:Array (Option Value)} {kV doc pm cdv ct:Value} (l:K.lookup f=some ⟨oc,od,.func (PySem.W.fnOf x qual (JT st) (jC st) (zf st) .none kV doc pm an cdv ct),osl⟩)
    (c:PySem.W.codeIn K cdv qual=true) (k:PySem.W.keepIn K (.ref f)=true):Fun K x qual st f (PySem.W.fnOf x qual (JT st) (jC st) (zf st) .none kV doc pm an cdv ct):=⟨⟨oc,od,kV,doc,pm,an,cdv,ct,osl,rfl,l,c⟩,k⟩
end
theorem zo {A:Around} {k:Nat} (hr:Room k A):A.units+1<cLine:=Nat.lt_of_le_of_lt (Nat.add_le_add_left (by decide:1≤64) _) hr.units
section
variable {X:Cx}
theorem pv (i:Nat) {x:Str} {pos:Pos} (hN:X.N[i]?=some x:=by rfl) (hv:Vis X.env.scope x:=by first|exact Or.inl rfl|exact Or.inr (Or.inl rfl)|exact Or.inr (Or.inr rfl)) (hd:(x==("__debug__" : Str))=false:=by decide)
    (hcd:(x==("__classdict__" : Str))=false:=by decide):PE X (.Name x pos) (tVar i):=z6 hN hv hd hcd
end
theorem ite2 {c A B:Prop} [Decidable c] (h1:c→A) (h2:¬c→B):if c then A else B:=by
  by_cases h:c
  · rw [if_pos h]
    exact h1 h
  · rw [if_neg h]
    exact h2 h
def Same (H H':Hp):Prop:=∀ b o,H b=some o→H' b=some o
theorem Same.refl (H:Hp):Same H H:=fun _ _ h=>h
theorem Same.trans {H H1 H2:Hp} (a:Same H H1) (b:Same H1 H2):Same H H2:=fun c o h=>b c o (a c o h)
theorem Same.free {H H':Hp} (e:Same H H') {l:Addr} (h:H' l=Option.none):H l=Option.none:=by
  cases q:H l with
  | none=>rfl
  | some o=>
    rw [e l o q] at h;cases h
theorem Same.seq {K:PySem.W.Frag} {H H':Hp} {a:Addr} {xs:List V} (e:Same H H') (h:SqL K H a xs):SqL K H' a xs:=by
  rcases h with (h|⟨o,h⟩)|h
  · exact .inl (.inl (e _ _ h))
  · exact .inl (.inr ⟨o,e _ _ h⟩)
  · exact .inr h
end L2
end
set_option Elab.async false
set_option linter.all false
set_option maxRecDepth 100000
namespace L2
open PySem PySem.Spec PyProof.Rows
def Bits (k:Nat) (x:Int):Prop:=x.natAbs<2 ^ k
theorem Bits.mono {j k:Nat} {x:Int} (h:Bits j x) (hk:j≤k):Bits k x:=Nat.lt_of_lt_of_le h (Nat.pow_le_pow_right (by decide) hk)
theorem Bits.mul {j k:Nat} {x y:Int} (h:Bits j x) (h':Bits k y):Bits (j+k) (x*y):=by
  unfold Bits at *;rw [Int.natAbs_mul,Nat.pow_add];exact Nat.mul_lt_mul'' h h'
theorem Bits.neg {k:Nat} {x:Int} (h:Bits k x):Bits k (-x):=by unfold Bits at *;rw [Int.natAbs_neg];exact h
theorem Bits.add {k:Nat} {x y:Int} (h:Bits k x) (h':Bits k y):Bits (k+1) (x+y):=by
  unfold Bits at *;have:=Int.natAbs_add_le x y;rw [Nat.pow_succ];omega
theorem Bits.sub {k:Nat} {x y:Int} (h:Bits k x) (h':Bits k y):Bits (k+1) (x - y):=by
  have:=h.add h'.neg;rwa [←Int.sub_eq_add_neg] at this
theorem Bits.le {k:Nat} {x y:Int} (h:Bits k x) (hy:y.natAbs≤x.natAbs):Bits k y:=Nat.lt_of_le_of_lt hy h
theorem Bits.log2 {k:Nat} {x:Int} (h:Bits k x) (hk:0<k):x.natAbs.log2<k:=by
  rcases Nat.eq_zero_or_pos x.natAbs with h0|hp
  · rw [h0];exact hk
  · exact(Nat.log2_lt (Nat.ne_of_gt hp)).mpr h
theorem Bits.bits {k:Nat} {x:Int} (h:Bits k x):Builtin.Int.intBits x≤k:=by
  unfold Builtin.Int.intBits
  split
  · exact Nat.zero_le _
  · rename_i hx
    have hx':x.natAbs≠0:=by
      intro e;apply hx;rw [Int.natAbs_eq_zero.mp e];rfl
    exact(Nat.log2_lt hx').mpr h
theorem Bits.mulOk {j k:Nat} {x y:Int} (h:Bits j x) (h':Bits k y) (hk:j+k≤134217728):IntMulOk x y:=by
  unfold IntMulOk;have e1:=h.bits;have e2:=h'.bits;have e:Builtin.Int.intTooBig ((Builtin.Int.intBits x:Int)+(Builtin.Int.intBits y:Int))=false:=by
    unfold Builtin.Int.intTooBig;refine decide_eq_false ?_;have:(bitsLine:Nat)=134217728:=by unfold bitsLine;decide
    omega
  intro z;rw [Bool.and_eq_true] at z;have z2:=z.2;rw [e] at z2;cases z2
section
variable {X:Cx}
theorem zku:OpR X (binaryOp .Mult) (rI IntMulOk fun i j=>.int (i*j)):=opI fun _ _ _ _ _ _ _ hc q=>mul_int q hc
def zbC (i j:Int):Prop:=0≤j∧(Builtin.Int.intBits i:Int)*j≤134217728
theorem znC:OpR X (binaryOp .Pow) (rI zbC fun i j=>.int (i ^ j.toNat)):=opI fun i j _ _ _ _ _ hc q=>by
  refine pow_int hc.1 ?_ q
  have e:((2:Int) ^ 27)=134217728:=by decide
  rw [e];exact hc.2
end
theorem zK.got {P:Program} {w:World} {H:Hp} {h:Heap} {a:Addr} {o:HO} (x:zK P w H h a o):∃ ob,h.get? a=some ob:=by
  cases o with
  | lst xs=>obtain⟨_,_,_,_,e⟩:=x;exact⟨_,e⟩
  | tup xs=>obtain⟨_,_,_,ob,e,_⟩:=x;exact⟨_,e⟩
  | dK kvs=>obtain⟨_,_,_,_,o,_,_,e,_⟩:=x;exact⟨_,e⟩
  | dT kvs=>obtain⟨_,_,_,_,o,_,_,e,_⟩:=x;exact⟨_,e⟩
  | set S n=>obtain⟨o,_,_,_,e,_⟩:=x;exact⟨_,e⟩
  | ins C dx fs=>obtain⟨_,_,_,e,_⟩:=x;exact⟨_,e⟩
  | own y=>obtain⟨_,e⟩:=x;exact⟨_,e⟩
  | xd fs=>obtain⟨_,⟨_,_,_,e,_⟩,_⟩:=x;exact⟨_,e⟩
  | rng lo hi=>obtain⟨_,_,_,e⟩:=x;exact⟨_,e⟩
  | frz ob u=>obtain⟨e,_⟩:=x;exact⟨_,e⟩
  | tbl ps=>exact⟨_,(show h.get? a=some _ from x)⟩
  | met f y=>exact⟨_,(show h.get? a=some _ from x)⟩
  | ext φ=>obtain⟨_,⟨_,e⟩,_⟩:=x;exact⟨_,e⟩
theorem HOk.through {P:Program} {w:World} {H:Hp} {B h h':Heap} (x:HOk P w H h) (k:B.StaysIn h) (k':B.StaysIn h') (t:∀ b o,H b=some o→∃ o',B.get? b=some o'):HOk P w H h':=fun a o e=>
  (x a o e).stay (fun b u hb q=>by
    have hB:∃ ob,B.get? b=some ob:=by
      rcases hb with z|z
      · exact t b o (z ▸ e)
      · exact t b _ z
    obtain⟨ob,hob⟩:=hB;have e1:=k b ob hob;rw [q] at e1;cases e1;exact k' b _ hob) (fun _ q=>q) fun _ _ q=>q
theorem Un.through {fs:List Addr} {H H':Hp} {B h h1 h2:Heap} (un:Un fs [] H H' h h1) (cov:∀ b o,h.get? b=some o→b∉fs→∃ o',B.get? b=some o') (k:B.StaysIn h1) (k':B.StaysIn h2)
    (fr:∀ b∈fs,∀ o,h1.get? b=some o→∃ sl,h2.get? b=some { o with slots:=sl }):Un fs [] H H' h h2 where
  keep:=fun b o q n hb hx=>by
    obtain⟨o',ho⟩:=cov b o q hb;have e:=un.keep b o q n hb hx;have e1:=k b o' ho;rw [e] at e1;cases e1;exact k' b _ ho
  slot:=fun b o q n hb hx=>by
    obtain⟨sl,e⟩:=un.slot b o q n hb hx;obtain⟨sl',e'⟩:=fr b hb _ e;exact⟨sl',e'⟩
  free:=un.free
  there:=fun b o q hx=>by
    by_cases hb:b∈fs
    · obtain⟨o',e⟩:=un.there b o q hx
      obtain⟨sl,e'⟩:=fr b hb _ e;exact⟨_,e'⟩
    · obtain⟨o',ho⟩:=cov b o q hb
      exact⟨o',k' b _ ho⟩
  tups:=un.tups
  frzs:=un.frzs
  tbls:=un.tbls
structure Fly (P:Program) (w:World) (stack:List Env) (H:Hp) (s:Shared) (ea C:Addr) (H':Hp) (s':Shared):Prop where
  os:s'.os=s.os
  bare:AllBare s'.gens
  un:Un (frs stack) [] H H' s.heap s'.heap
  hok:HOk P w H' s'.heap
  fly:∃ B a0,Heap.FlyingW B stack ea (.ref C) a0 s'.heap∧(∀ b o,s.heap.get? b=some o→b∉frs stack→∃ o',B.get? b=some o')∧(∀ b o,H' b=some o→∃ o',B.get? b=some o')
def CXR (P:Program) (w:World):CXT:=fun outer H s E e s'=>∃ ea C H',e=.ref ea∧Fly P w outer H s ea C H' s'∧E (.ref C) none H'
theorem zh3 {B h h':Heap} {l:List Env} (fr:h.FunFrames B l) (sm:h.UpToSlots h'):∀ b∈frs l,∀ o,h.get? b=some o→∃ sl,h'.get? b=some { o with slots:=sl }:=fun b hb o ho=>by
  obtain⟨_,o2,ho2,hd⟩:=fr.mem hb;rw [ho] at ho2;cases ho2;exact sm b o ho hd
section
variable {P:Program} {w:World} {K:PySem.W.Frag} {mg:Str→Option Value} {base:Heap} {N:List Str} {qual:Str} {scope:Scope} {f:Addr} {cd:Value} {A:Around} {outer:List Env} {s₀ : Shared} {H₀ : Hp} {E:XK} {CX:CXT}
theorem zeL {pins:List (Addr×Obj)} {σ : St} {H:Hp} {s:Shared} (I:Inv (cxOf CX P w K mg base N qual scope f cd A outer s₀ H₀ E) pins σ H s) {b:Addr} {o:Obj} (q:s₀.heap.get? b=some o) (hb:b∉frs outer) :
    b∉frs (cxOf CX P w K mg base N qual scope f cd A outer s₀ H₀ E).stack:=fun z=>by
  rcases List.mem_cons.mp (I.stkSub b z) with e|e
  · have h1:=Heap.lt_size q
    rw [show b=s₀.heap.objs.size from e] at h1
    exact Nat.lt_irrefl _ h1
  · exact hb e
theorem zfj {pins:List (Addr×Obj)} {σ : St} {H:Hp} {s:Shared} (I:Inv (cxOf CX P w K mg base N qual scope f cd A outer s₀ H₀ E) pins σ H s) {b:Addr} {o:Obj} (q:s₀.heap.get? b=some o):∃ o',s.heap.get? b=some o':=
  I.base.there b o q (fun z=>absurd (show b∈([]:List Addr) from z) (by simp))
theorem zg:Passes (CXR P w) (cxOf (CXR P w) P w K mg base N qual scope f cd A outer s₀ H₀ E) E:=by
  intro pins σ H s e s' I h;obtain⟨ea,C,H',rfl,F,q⟩:=h;obtain⟨B,a0,fl,cov,trk⟩:=F.fly;have J:=I.call' (ch:=[]) F.os F.un F.hok F.bare (fun b z=>absurd z (by simp))
  have cov':∀ b o,s₀.heap.get? b=some o→b∉frs outer→∃ o',B.get? b=some o':=fun b o z hb=>by
    obtain⟨o1,h1⟩:=zfj I z;exact cov b o1 h1 (zeL I z hb)
  refine wpAny_leaves_onW (base:=B) (outer:=outer) (L:=s₀.heap.objs.size) I.ok.frames rfl fl fun h' fl' sm=>?_
  have fr:=zh3 (fl.2.2.1).2.2 sm;exact⟨ea,C,H',rfl,⟨J.os,F.bare,J.base.through cov' fl.1 fl'.1 fr,F.hok.through fl.1 fl'.1 trk,B,a0,fl',cov',trk⟩,q⟩
def Flies (X:Cx) (E:XK):Prop:=∀ (pins:List (Addr×Obj)) (σ : St) (H:Hp) (s:Shared) (e C:Addr) (vs:List Value) (h1:Heap),Inv X pins σ H s→Heap.MadeExcOf s.heap h1 e (.ref C) vs→E (.ref C) none H→X.xe (.ref e) { s with heap:=h1 }
theorem zI:Flies (cxOf (CXR P w) P w K mg base N qual scope f cd A outer s₀ H₀ E) E:=by
  intro pins σ H s e C vs h1 I M q;have kB:(PySem.W.hideAll s.heap (frs (cxOf (CXR P w) P w K mg base N qual scope f cd A outer s₀ H₀ E).stack)).StaysIn s.heap:=fun b o z=>PySem.W.of_hideAll _ z
  have trk:∀ b o,H b=some o→∃ o',(PySem.W.hideAll s.heap (frs (cxOf (CXR P w) P w K mg base N qual scope f cd A outer s₀ H₀ E).stack)).get? b=some o':=fun b o z=>by
    obtain⟨ob,hob⟩:=(I.hok b o z).got;exact⟨ob,PySem.W.hideAll_get _ hob fun hm=>by rw [I.stkFree b hm] at z;cases z⟩
  have cov:∀ b o,s₀.heap.get? b=some o→b∉frs outer→∃ o',(PySem.W.hideAll s.heap (frs (cxOf (CXR P w) P w K mg base N qual scope f cd A outer s₀ H₀ E).stack)).get? b=some o':=fun b o z hb=>by
    obtain⟨o1,h1⟩:=zfj I z;exact⟨o1,PySem.W.hideAll_get _ h1 (zeL I z hb)⟩
  refine wpAny_leaves_madeW (base:=PySem.W.hideAll s.heap (frs (cxOf (CXR P w) P w K mg base N qual scope f cd A outer s₀ H₀ E).stack)) (h:=s.heap) (outer:=outer) (L:=s₀.heap.objs.size) I.ok.frames rfl kB
    (PySem.W.funFrames_hide I.stack fun env he b hb=>List.mem_filterMap.mpr ⟨env,he,hb⟩) M fun h' t fl tu bt sm=>?_
  have fr:∀ b∈frs outer,∀ o,s.heap.get? b=some o→∃ sl,h'.get? b=some { o with slots:=sl }:=fun b hb o ho=>by
    obtain⟨_,o2,ho2,hd⟩:=I.funs.mem hb;rw [ho] at ho2;cases ho2;exact sm b o (M.keeps b o ho) hd
  exact⟨e,C,H,rfl,⟨I.os,I.bare,I.base.through cov kB fl.1 fr,I.hok.through kB fl.1 trk,_,_,fl,cov,trk⟩,q⟩
end
def bmVE:List Value:=[.type "ValueError", .type "Exception", .type "BaseException", .type "object"]
theorem zli {K:PySem.W.Frag} {h:Heap} {C:Addr} (X:K.In h) (q:PySem.W.excIn K C bmVE "ValueError.__new__" = true) :
    ∃ bm N nm qn bs hdct sn sub ab col dd k0 k1 k2 k3 k5 mN,h.get? C=some (excClassObj nm qn C N bs bm hdct sn sub ab col dd k0 k1 k2 k3 k5 "ValueError.__new__")∧h.Ns N mN∧mN "__init__" = none∧OwnTail h bmVE bm:=by
  unfold PySem.W.excIn at q
  split at q
  · rename_i dd cdx sl ho
    split at q
    · rename_i C' bm k0 k1 k2 k3 n k5 hm hs
      rw [Bool.and_eq_true,Bool.and_eq_true,Bool.and_eq_true,Bool.and_eq_true,Bool.and_eq_true] at q;obtain⟨⟨⟨⟨⟨q1,q2⟩,q3⟩,q4⟩,q5⟩,q6⟩:=q;have e1:C'=C:=beq_iff_eq.mp q1;have e2:n = "ValueError.__new__":=beq_iff_eq.mp q2;have e6:=beq_iff_eq.mp q6;obtain⟨nm,bs,mro,ns,qn,hd,sn,sub,ab,col,del⟩:=cdx;obtain⟨l⟩:=sl;dsimp only at hm q3 q5 e6 hs;have e3:del=false:=by simpa using q3
      subst e1 e2 e3 hm hs;exact⟨bm,ns,nm,qn,bs,hd,sn,sub,ab,col,dd,k0,k1,k2,k3,k5,_,X _ _ ho,.of_isNs (PySem.W.isNs_of_in X q5),PySem.W.nsMap_none_of_in X q5 e6,PySem.W.tail_of_in X q4⟩
    · cases q
  · cases q
def zoC (C:Addr) (E:XK) (t:TA):TS:=fun _ σ H=>t σ H fun vs H1=>vs.length≤sizeLine∧E (.ref C) none H1
theorem zh9 {X:Cx} {x:Str} {C:Addr} {e0:Expr} {t:TA} {E:XK} {np cpos pos:Pos} (hf:Flies X E) (hc:X.calm=true) (hg:Gl X x) (hm:X.mg x=some (.ref C)) (hx:PySem.W.excIn X.K C bmVE "ValueError.__new__" = true) (ha:PA X [e0] t)
    (hdb:(x==("__debug__" : Str))=false:=by decide) (hs:starEach [e0] X.env=[(false,eval e0 X.env)]:=by rfl):PS X (.Raise (some (.Call (.Name x np) [e0] [] cpos)) none pos) (zoC C E t):=by
  intro pins s σ H D I h;obtain⟨bm,Nn,nm,q,bs,hdct,sn,sub,ab,col,dd,k0,k1,k2,k3,k5,mN,hC,hN,hni,T⟩:=zli I.ok.mod.kin hx;refine wpAny_Raise_call_subT (C:=C) (nm:=nm) (q:=q) (N:=Nn) (bs:=bs) (bm:=bm) (hdct:=hdct) (sn:=sn) (sub:=sub) (ab:=ab) (col:=col) (dd:=dd) (k0:=k0) (k1:=k1) (k2:=k2) (k3:=k3) (k5:=k5)
    PySem.F.excBase_ValueError (mN:=mN) (T.hasType rfl) (I.ok.hd hc) (by rw [hs];rfl) hni (ZJ I hg hm ⟨rfl,?_⟩ hdb)
  have h1:=ha cpos pins s σ H _ I h;rw [hs] at h1 ⊢;refine Calls.evalArgs_plain (wpAny_mono h1 (fun us s2 z=>?_) fun _ _ z=>z)
  obtain⟨vs,H1,I1,r,z,qE⟩:=z;exact⟨rfl,by show us.length≤sizeLine;rw [←r.length];exact z,I1.bk _ _ hC,hN.keeps I1.bk,T.keeps I1.bk,fun h' e M=>hf pins σ H1 s2 e C us h' I1 M qE⟩
theorem Fun.okR {P:Program} {w:World} {K:PySem.W.Frag} {mg:Str→Option Value} {base:Heap} {x qual:Str} {st:Stmt} {f:Addr} {fd:FuncData} {N ps:List Str} {k:Nat} {sp:Sp} (F:Fun K x qual st f fd) (S:FnScope N ps (zf st)) (len:∀ vs H Q E,sp vs H Q E→vs.length=ps.length)
    (hbody:∀ (cdv:Value) (A:Around) (outer:List Env) (s:Shared) (H:Hp) (vs:List V) (Q:VK) (E:XK),Room k (A.deeper (envOfC qual (zf st) s.heap.objs.size f cdv))→sp vs H Q E→
      ∃ t,PSs (cxOf (CXR P w) P w K mg base N qual (zf st) f cdv A outer s H E) (jC st) t∧t { nx:=fun _ H'=>Q .non H',rt:=Q } (start N vs) H):FnOk P w K mg base (CXR P w) (k+1) f fd ps sp:=by
  obtain⟨oc,od,kV,doc,pm,an,cdv,ct,osl,rfl,lk,hcd⟩:=F.ex;exact zfO lk hcd S len fun A outer s H vs Q E hr hsp=>hbody cdv A outer s H vs Q E hr hsp
theorem PA.nox {X:Cx} {es:List Expr} {t:TA} (h:PA X.nox es t) (pos:Pos) {pins:List (Addr×Obj)} {s:Shared} {σ : St} {H:Hp} {Q:List V→Hp→Prop} {E:Value→Shared→Prop} (I:Inv X pins σ H s) (q:t σ H Q) :
    wpAny (model X.prog X.w) X.A (spliced (backTo pos (starEach es X.env))) (AP X pins σ Q) E s:=
  wpAny_mono (h pos pins s σ H Q (I.wish _) q) (fun us s1 ⟨vs,H1,I1,r,q1⟩=>⟨vs,H1,I1.unwish,r,q1⟩) fun _ _ z=>z.elim
section
variable {X:Cx} {pins:List (Addr×Obj)} {σ : St} {H:Hp} {s:Shared}
end
theorem HOk.track {P:Program} {w:World} {H:Hp} {h:Heap} {a:Addr} {o:HO} (x:HOk P w H h) (hn:H a=none) (new:zK P w (upd H a o) h a o):HOk P w (upd H a o) h:=fun b u e=>by
  by_cases hb:b=a
  · subst hb;rw [zh] at e;cases e;exact new
  · rw [zd hb] at e
    exact(x b u e).stay (fun c v _ q=>q) (fun c q=>by rw [zd (zG q hn)];exact q) fun c xs q=>by rw [zd (zG q hn)];exact q
theorem zbz:bootBuiltins "int" = some (.type "int"):=by decide +kernel
theorem zoJ:bootBuiltins "bool" = some (.type "bool"):=by decide +kernel
theorem jg:bootBuiltins "str" = some (.type "str"):=by decide +kernel
theorem zev:bootBuiltins "list" = some (.type "list"):=by decide +kernel
theorem zm2:bootBuiltins "isinstance" = some (.builtin "isinstance"):=by decide +kernel
theorem zM:bootBuiltins "len" = some (.builtin "len"):=by decide +kernel
theorem zgF:bootBuiltins "abs" = some (.builtin "abs"):=by decide +kernel
theorem zm0:bootBuiltins "max" = some (.builtin "max"):=by decide +kernel
theorem zgr:bootBuiltins "min" = some (.builtin "min"):=by decide +kernel
theorem zbW:bootBuiltins "sum" = some (.builtin "sum"):=by decide +kernel
theorem zh4:bootBuiltins "all" = some (.builtin "all"):=by decide +kernel
section
variable {prog:Program} {w:World} {A:Around} {E:Value→Shared→Prop} {s:Shared} {K:PySem.W.Frag} {ea C:Addr}
end
section
variable {X:Cx}
def isB (t n:String):Option Bool:=
  if t = "int"∧n = "int" then some true else if t = "int"∧n = "bool" then some false else if t = "tuple"∧n = "tuple" then some true else if t = "list"∧n = "list" then some true
  else if t = "str"∧n = "str" then some true else if t = "bool"∧n = "bool" then some true else none
theorem zic {K:PySem.W.Frag} {t n:String} {b:Bool} (h:isB t n=some b):PySem.W.kitOne K (.type t) (.type n)=some b:=by
  unfold isB at h
  split at h
  · rename_i e;obtain⟨rfl,rfl⟩:=e;cases h;rfl
  split at h
  · rename_i e;obtain⟨rfl,rfl⟩:=e;cases h;rfl
  split at h
  · rename_i e;obtain⟨rfl,rfl⟩:=e;cases h;rfl
  split at h
  · rename_i e;obtain⟨rfl,rfl⟩:=e;cases h;rfl
  split at h
  · rename_i e;obtain⟨rfl,rfl⟩:=e;cases h;rfl
  split at h
  · rename_i e;obtain⟨rfl,rfl⟩:=e;cases h;rfl
  cases h
end
mutual
inductive RdV (K:PySem.W.Frag) (H:Hp):V→PyData→Prop
  | non:RdV K H .non .none
  | bl (b):RdV K H (.bl b) (.bool b)
  | int (i):RdV K H (.int i) (.int i)
  | str (x):RdV K H (.str x) (.str x)
  | lst {a xs ds}:SqL K H a xs→RdVs K H xs ds→RdV K H (.ref a) (.list ds)
  | tup {a xs ds}:SqT K H a xs→RdVs K H xs ds→RdV K H (.ref a) (.tuple ds)
inductive RdVs (K:PySem.W.Frag) (H:Hp):List V→List PyData→Prop
  | nil:RdVs K H [] []
  | cons {x xs d ds}:RdV K H x d→RdVs K H xs ds→RdVs K H (x::xs) (d::ds)
end
section
variable {X:Cx} {pins:List (Addr×Obj)} {σ : St} {H:Hp} {s:Shared}
mutual
theorem RdV.reads (I:Inv X pins σ H s):∀ {x:V} {d:PyData} {u:Value},RdV X.K H x d→RelV x u→∃ as,Reads s.heap u d as
  | _,_,_,.non,r=>by cases r;exact⟨_,.none⟩
  | _,_,_,.bl b,r=>by cases r;exact⟨_,.bool b⟩
  | _,_,_,.int i,r=>by obtain⟨t,rfl⟩:=r;exact⟨_,.int i t⟩
  | _,_,_,.str x,r=>by obtain⟨t,rfl⟩:=r;exact⟨_,.str x t⟩
  | _, _, _, .lst hq hs, r => by
    cases r;obtain⟨its,rv,⟨o,n,ho,hc,_,hd⟩,_⟩:=I.list hq
    obtain⟨as,q⟩:=RdVs.reads I hs rv;exact⟨_,.list ho hc hd q⟩
  | _, _, _, .tup hq hs, r => by
    cases r;obtain⟨its,rv,⟨o,ho,hc,n,hd⟩,_⟩:=I.tuple hq
    obtain⟨as,q⟩:=RdVs.reads I hs rv;exact⟨_,.tuple ho hc hd q⟩
theorem RdVs.reads (I:Inv X pins σ H s):∀ {xs:List V} {ds:List PyData} {us:List Value},RdVs X.K H xs ds→Vals xs us→∃ as,ReadsAll s.heap us ds as
  | _,_,_,.nil,.nil=>⟨_,.nil⟩
  | _, _, _, .cons h hs, .cons r t => by
    obtain⟨as,q⟩:=RdV.reads I h r;obtain⟨bs,p⟩:=RdVs.reads I hs t;exact⟨_,.cons q p⟩
end
end
section
variable {X:Cx}
def rEqD (K:PySem.W.Frag):R2:=fun x y H Q=>∃ d e,RdV K H x d∧RdV K H y e∧SeqAt.shaped d=true∧SeqAt.shaped e=true∧Q (.bl (PyData.eqv d e)) H
def rNeD (K:PySem.W.Frag):R2:=fun x y H Q=>∃ d e,RdV K H x d∧RdV K H y e∧SeqAt.shaped d=true∧SeqAt.shaped e=true∧Q (.bl (!PyData.eqv d e)) H
theorem zlM (hu:X.A.units+64<cLine):OpR X (compareOp .Eq) (rEqD X.K):=by
  intro pins s σ H x y v u Q I rx ry h;obtain⟨d,e,h1,h2,s1,s2,q⟩:=h;obtain⟨as,r1⟩:=h1.reads I rx;obtain⟨bs,r2⟩:=h2.reads I ry;exact eq_dataH r1 r2 s1 s2 hu ⟨.bl _,H,I,rfl,q⟩
theorem ziR (hu:X.A.units+64<cLine):OpR X (compareOp .NotEq) (rNeD X.K):=by
  intro pins s σ H x y v u Q I rx ry h;obtain⟨d,e,h1,h2,s1,s2,q⟩:=h;obtain⟨as,r1⟩:=h1.reads I rx;obtain⟨bs,r2⟩:=h2.reads I ry;exact ne_dataH r1 r2 s1 s2 hu ⟨.bl _,H,I,rfl,q⟩
def jM (_ j:Int):Prop:=0<j∧Bits 9000 j
theorem zl7:OpR X (binaryOp .FloorDiv) (rI jM fun i j=>.int (i/j)):=opI fun i j _ _ _ _ _ hc q=>
  floordiv_int (by have:=hc.1;omega) (by rw [Int.fdiv_eq_ediv_of_nonneg i (by have:=hc.1;omega)];exact q) (.inl (PyProof.noPylong_of_log2 (hc.2.log2 (by decide))))
end
def Df (P:Program) (w:World) (K:PySem.W.Frag) (mg:Str→Option Value) (base:Heap) (k:Nat) (x:Str) (ps:List Str) (sp:Sp):Prop:=
  ∃ f fd,FnOk P w K mg base (CXR P w) k f fd ps sp∧Binds K fd ps []∧PySem.W.keepIn K (.ref f)=true∧mg x=some (.ref f)
section
variable {X:Cx} {k:Nat} {ps:List Str} {sp:Sp} {x:Str} {p pos pos':Pos} {e:Expr} {es:List Expr} {t:TA} {E:XK}
theorem zb9 (G:Df X.prog X.w X.K X.mg X.base k x ps sp) (hr:Room k X.A) (hg:Gl X x) (hx:Passes (CXR X.prog X.w) X E) (ha:PA X (e::es) t) (hdb:(x==("__debug__" : Str))=false:=by decide)
    (he:starEach (e::es) X.env=(false,eval e X.env)::starEach es X.env:=by rfl) (hpl:(backTo pos (starEach es X.env)).any (·.1)=false:=by rfl):PE X (.Call (.Name x p) (e::es) [] pos) (zgE sp [] E t):=by
  obtain⟨f,fd,F,hb,hk,hm⟩:=G;exact zmL F hr hg hm hk hb .nil hx ha hdb he hpl
end
section
variable {X:Cx} {o e:Expr} {to:TE} {t:TA} {apos pos:Pos}
theorem zai (ho:PE X o to) (ha:PA X [e] t) (hb:attributeBase o "append" X.env (eval o X.env)=eval o X.env:=by rfl)
    (hf:((backTo pos (starEach [e] X.env)).all (fun x=>!x.1)&&(backToKw pos (keywordEach [] X.env)).all (fun x=>x.1.isSome)&&decide ([e].length+([]:List Keyword).length+(if([]:List Keyword).isEmpty then 0 else 1)<30))=true:=by rfl)
    (hl:(apos.endLine==pos.line)=true:=by rfl) (hs:starEach [e] X.env=(false,eval e X.env)::starEach [] X.env:=by rfl) (hp:(backTo pos (starEach [] X.env)).any (·.1)=false:=by rfl) :
    PE X (.Call (.Attribute o "append" apos) [e] [] pos) (tBM X.K "list" rAppend to t):=
  ZT PySem.F.plainAttrs_list PySem.F.slot_list_append PySem.F.type_list_append zeQ ho ha hb hf hl hs hp
theorem zaw {K:PySem.W.Frag} {H:Hp} {p:Addr} {xs:List V} (h:H p=some (.lst xs)):tyV K "list" (.ref p) H:=.inl ⟨rfl,_,SqL.of h⟩
end
section
variable {ta:TA} {tl:TE} {g:TG} {tb:TS} {D:Ends} {σ : St} {H:Hp} {K:PySem.W.Frag}
end
theorem z5 {H:Hp} {p:Addr} (h:H p=none) (o:HO):Same H (upd H p o):=fun b u q=>by rw [zd (zG q h)];exact q
theorem Same.tup {K:PySem.W.Frag} {H H':Hp} {a:Addr} {xs:List V} (e:Same H H') (h:SqT K H a xs):SqT K H' a xs:=by
  rcases h with (h|⟨o,h⟩)|h
  · exact .inl (.inl (e _ _ h))
  · exact .inl (.inr ⟨o,e _ _ h⟩)
  · exact .inr h
section
variable {X:Cx}
end
theorem atI0 {α : Type} {x:α} {xs:List α}:atI (x::xs) 0=some x:=Jb (j:=0) rfl
theorem atI1 {α : Type} {x y:α} {xs:List α}:atI (x::y::xs) 1=some y:=Jb (j:=1) rfl
end L2
section
open PySem PySem.Spec PyProof.Rows L2
namespace L2
end L2
namespace L2
theorem Bits.lit {x:Int} (k:Nat) (h:x.natAbs<2 ^ 64:=by decide) (hk:64≤k:=by decide):Bits k x:=Bits.mono (j:=64) h hk
theorem powB {i j:Int} {k:Nat} (h:Bits k i) (h0:0≤j) (hk:k*j.toNat≤134217728):zbC i j:=⟨h0,by
  have e1:=h.bits;have e2:(Builtin.Int.intBits i:Int)*j≤(k:Int)*j:=Int.mul_le_mul_of_nonneg_right (by omega) h0
  have e3:(k:Int)*j=((k*j.toNat:Nat):Int):=by rw [Int.natCast_mul];congr 1;omega
  omega⟩
end L2
end
namespace L2
open PySem PySem.Spec PyProof.Rows
def zf2 (osc scope:Scope) (tn fn:List Str):Bool:=
  decide (scope.kind=.function)&&scope.names.all (fun x=>!decide (x.2=.local)||decide (scope.names.lookup x.1=some .local)) &&
  scope.names.all (fun x=>!decide (x.2=.cell)||decide (scope.names.lookup x.1=some .cell)) &&
  scope.names.all (fun x=>!decide (x.2=.free)||decide (osc.names.lookup x.1=some .cell)||decide (osc.names.lookup x.1=some .free)) &&
  tn.all (fun x=>decide (scope.names.lookup x=some .local)||decide (scope.names.lookup x=some .cell)) &&
  fn.all (fun x=>decide (scope.names.lookup x=some .free))&&decide ((tn++fn).Nodup)
structure CompSc (osc scope:Scope) (tn fn:List Str):Prop where
  kind:scope.kind=.function
  loc:∀ x∈scope.names,x.2=.local→scope.names.lookup x.1=some .local
  cell:∀ x∈scope.names,x.2=.cell→scope.names.lookup x.1=some .cell
  free:∀ x∈scope.names,x.2=.free→osc.names.lookup x.1=some .cell∨osc.names.lookup x.1=some .free
  frees:∀ x∈fn,scope.names.lookup x=some .free
  nd:(tn++fn).Nodup
theorem jI {osc scope:Scope} {tn fn:List Str} (h:zf2 osc scope tn fn=true):CompSc osc scope tn fn:=by
  unfold zf2 at h;simp only [Bool.and_eq_true,decide_eq_true_eq,List.all_eq_true,Bool.or_eq_true,Bool.not_eq_true',decide_eq_false_iff_not] at h;obtain⟨⟨⟨⟨⟨⟨h1,h2⟩,h3⟩,h4⟩,h5⟩,h6⟩,h7⟩:=h;refine⟨h1,fun x hx e=>(h2 x hx).resolve_left (fun n=>n e),fun x hx e=>(h3 x hx).resolve_left (fun n=>n e),fun x hx e=>?_,h6,h7⟩
  rcases h4 x hx with (n|q)|q
  · exact absurd e n
  · exact .inl q
  · exact .inr q
theorem zeh (env:Env):∀ (names:List (Str×NameKind)) (x:Str),
    (names.map fun(n,k)=>if(k==NameKind.free&&env.scope.kind==.function&&env.kindOf n==some .cell) then(n,NameKind.cell) else(n,k)).lookup x =
      (names.lookup x).map fun k=>if(k==NameKind.free&&env.scope.kind==.function&&env.kindOf x==some .cell) then NameKind.cell else k
  | [],x=>rfl
  | (n, k) :: r, x => by
    have ih:=zeh env r x;rw [List.map_cons]
    by_cases hx:x=n
    · subst hx
      show List.lookup x ((if(k==NameKind.free&&env.scope.kind==.function&&env.kindOf x==some .cell)=true then(x,NameKind.cell) else(x,k))::_)=_
      split
      · rename_i hc;rw [List.lookup_cons,List.lookup_cons];simp only [beq_self_eq_true,Option.map_some,if_pos hc]
      · rename_i hc;rw [List.lookup_cons,List.lookup_cons];simp only [beq_self_eq_true,Option.map_some,if_neg hc]
    · have hb:(x==n)=false:=beq_eq_false_iff_ne.mpr hx
      show List.lookup x ((if(k==NameKind.free&&env.scope.kind==.function&&env.kindOf n==some .cell)=true then(n,NameKind.cell) else(n,k))::_)=_
      split
      · simp only [List.lookup_cons,hb];exact ih
      · simp only [List.lookup_cons,hb];exact ih
theorem ze5 {scope:Scope} {env:Env} {x:Str} {k:NameKind} (h:(relabel scope env).names.lookup x=some k):∃ k',scope.names.lookup x=some k'∧(k'=k∨(k'=.free∧k=.cell)):=by
  have e:=zeh env scope.names x;have h':(scope.names.map fun(n,k)=>if(k==NameKind.free&&env.scope.kind==.function&&env.kindOf n==some .cell) then(n,NameKind.cell) else(n,k)).lookup x=some k:=h
  rw [h'] at e;cases q:scope.names.lookup x with
  | none=>rw [q] at e;cases e
  | some k'=>
    rw [q] at e;have e':=Option.some.inj e;refine⟨k',rfl,?_⟩;dsimp only at e'
    split at e'
    · rename_i hc
      simp only [Bool.and_eq_true,beq_iff_eq] at hc;exact .inr ⟨hc.1.1,e'⟩
    · exact .inl e'.symm
theorem zni {scope:Scope} {env:Env} {x:Str} (h:scope.names.lookup x=some .free):(relabel scope env).names.lookup x=some .cell∨(relabel scope env).names.lookup x=some .free:=by
  have e:=zeh env scope.names x;rw [h] at e;have e':(relabel scope env).names.lookup x=some _:=e;rw [e']
  by_cases c:(NameKind.free==NameKind.free&&env.scope.kind==.function&&env.kindOf x==some .cell)=true
  · left;simp only [Option.some.injEq];rw [if_pos c]
  · right;simp only [Option.some.injEq];rw [if_neg c]
theorem JZ:∀ (names:List (Str×NameKind)) (n:Nat) (acc:List (Str×Addr)),cellsFrom n names acc=cellsFrom n names []++acc
  | [],_,acc=>rfl
  | (x, k) :: r, n, acc => by
    unfold cellsFrom
    split
    · rw [JZ r (n+1) ((x,n)::acc),JZ r (n+1) [(x,n)],List.append_assoc];rfl
    · exact JZ r n acc
theorem zdR:∀ (names:List (Str×NameKind)) (n:Nat) (x:Str) (c:Addr),(x,c)∈cellsFrom n names []→(x,NameKind.cell)∈names
  | [],_,_,_,h=>by cases h
  | (y, k) :: r, n, x, c, h => by
    unfold cellsFrom at h
    split at h
    · rename_i hk
      rw [JZ] at h
      rcases List.mem_append.mp h with q|q
      · exact List.mem_cons_of_mem _ (zdR r _ x c q)
      · cases List.mem_singleton.mp q
        have:k=.cell:=by simpa using hk
        subst this;exact List.mem_cons_self
    · exact List.mem_cons_of_mem _ (zdR r _ x c h)
theorem zkG {env:Env} {scope:Scope} (h:∀ x∈scope.names,x.2=.free→∃ c,env.cells.lookup x.1=some c) :
    ∃ cl,closureFor scope env=pure cl∧(∀ x c,cl.lookup x=some c→env.cells.lookup x=some c)∧∀ x,(x,NameKind.free)∈scope.names→∃ c,cl.lookup x=some c:=by
  have key:∀ (f:Str×NameKind→List (Str×Addr)→Sem (ForInStep (List (Str×Addr)))),(∀ n k cs,f (n,k) cs=if k==.free then(do let a ←cellOf env n;pure (ForInStep.yield ((n,a)::cs))) else pure (ForInStep.yield cs))→
      ∀ (names:List (Str×NameKind)) (acc:List (Str×Addr)),(∀ x∈names,x.2=.free→∃ c,env.cells.lookup x.1=some c)→(∀ x c,acc.lookup x=some c→env.cells.lookup x=some c)→
      ∃ cl,(forIn names acc f:Sem (List (Str×Addr)))=pure cl∧(∀ x c,cl.lookup x=some c→env.cells.lookup x=some c)∧
        (∀ x,(x,NameKind.free)∈names→∃ c,cl.lookup x=some c)∧∀ x,(∃ c,acc.lookup x=some c)→∃ c,cl.lookup x=some c:=by
    intro f hf names
    induction names with
    | nil=>intro acc _ ha;exact⟨acc,rfl,ha,fun x hx=>(by cases hx),fun x q=>q⟩
    | cons y r ih=>
      intro acc hn ha;obtain⟨n,k⟩:=y
      by_cases hk:k=.free
      · subst hk
        obtain⟨c,hc⟩:=hn (n,.free) List.mem_cons_self rfl;have hc':env.cells.lookup n=some c:=hc;obtain⟨cl,e1,e2,e3,e4⟩:=ih ((n,c)::acc) (fun x hx=>hn x (List.mem_cons_of_mem _ hx)) (fun x c' q=>by
          rw [List.lookup_cons] at q
          by_cases hx:x=n
          · subst hx;simp at q;subst q;exact hc'
          · rw [beq_eq_false_iff_ne.mpr hx] at q;exact ha x c' q)
        refine⟨cl,?_,e2,fun x hx=>?_,fun x q=>e4 x ?_⟩
        · rw [List.forIn_cons,hf]
          have ec:cellOf env n=pure c:=by unfold cellOf;rw [hc']
          simp only [beq_self_eq_true,if_true,ec];exact e1
        · rcases List.mem_cons.mp hx with e|e
          · cases e;exact e4 n ⟨c,by simp [List.lookup_cons]⟩
          · exact e3 x e
        · obtain⟨c',q⟩:=q
          by_cases hx:x=n
          · subst hx;exact⟨c,by simp [List.lookup_cons]⟩
          · exact⟨c',by rw [List.lookup_cons,beq_eq_false_iff_ne.mpr hx];exact q⟩
      · obtain⟨cl,e1,e2,e3,e4⟩:=ih acc (fun x hx=>hn x (List.mem_cons_of_mem _ hx)) ha
        refine⟨cl,?_,e2,fun x hx=>?_,e4⟩
        · rw [List.forIn_cons,hf]
          have:(k==NameKind.free)=false:=by simpa using hk
          simp only [this,Bool.false_eq_true,if_false];exact e1
        · rcases List.mem_cons.mp hx with e|e
          · cases e;exact absurd rfl hk
          · exact e3 x e
  unfold closureFor;obtain⟨cl,e1,e2,e3,_⟩:=key (fun x r=>match x with|(name,kind)=>if kind==.free then(do let a ←cellOf env name;pure (ForInStep.yield ((name,a)::r))) else pure (ForInStep.yield r)) (fun _ _ _=>rfl) scope.names [] h (fun x c q=>by cases q)
  refine⟨cl,?_,e2,e3⟩
  have e:∀ (x:Sem (List (Str×Addr))),x=pure cl→(x >>= fun r=>pure r)=pure cl:=fun x q=>by rw [q];rfl
  exact e _ e1
def zlT (scope:Scope) (C:Addr) (cells:List (Str×Addr)) (env:Env):Env:=
  { scope:=relabel scope env,locals:=C,globals:=env.globals,cells:=cells,qual:=env.qual,func:=none,code:=env.code,frame:=env.frame,builtins:=env.builtins }
def Cx.comp (X:Cx) (scope:Scope) (N:List Str) (s:Shared) (H:Hp) (fp:List Addr) (cl:List (Str×Addr)):Cx where
  prog:=X.prog
  w:=X.w
  K:=X.K
  mg:=X.mg
  base:=X.base
  A:=X.A
  N:=N
  s₀:=s
  H₀:=H
  env:=zlT scope s.heap.objs.size (cellsFrom (s.heap.objs.size+1) scope.names cl) X.env
  outer:=X.stack
  stack:=X.stack
  ex:=fp
  fn:=fun x=>decide (scope.names.lookup x=some .cell)
  calm:=X.calm
  pn:=[]
  xe:=fun _ _=>False
def cst (n:Nat) (js:List Nat) (σ : St):St:=List.replicate n none++js.map fun j=>(σ[j]?).join
theorem zj0 {X:Cx} {pins:List (Addr×Obj)} {σ : St} {H:Hp} {s:Shared} {scope:Scope} {tn fn:List Str} {js:List Nat} {fp:List Addr} {cl:List (Str×Addr)} (I:Inv X pins σ H s) (S:CompSc X.env.scope scope tn fn)
    (hj:js.map (fun j=>X.N[j]?)=fn.map some) (hfp:∀ b∈fp,FpOk X pins H b) (hlt:∀ b∈fp,b<s.heap.objs.size)
    (hcl:∀ x c,cl.lookup x=some c→X.env.cells.lookup x=some c) (hcl2:∀ x,(x,NameKind.free)∈scope.names→∃ c,cl.lookup x=some c) :
    Inv (X.comp scope (tn++fn) s H fp cl) [] (cst tn.length js σ) H { s with heap:=pushCells (s.heap.push { cls:=.type "dict", data:=.dict #[] }) scope.names }:=by
  have hC:=cellsFrom_ok scope.names (s.heap.push { cls:=.type "dict", data:=.dict #[] }) (s.heap.objs.size+1) [] ⟨fun _ _ hm=>(nomatch hm),List.Pairwise.nil⟩ (by rw [Heap.size_push];exact Nat.le_refl _)
  rw [Heap.size_push] at hC;have keep:∀ b o,s.heap.get? b=some o→(pushCells (s.heap.push { cls:=.type "dict", data:=.dict #[] }) scope.names).get? b=some o:=fun b o e=>pushCells_keeps _ _ b o (Heap.get?_push_of_some _ e)
  have look:∀ x c,(cellsFrom (s.heap.objs.size+1) scope.names cl).lookup x=some c→((x,c)∈cellsFrom (s.heap.objs.size+1) scope.names [])∨X.env.cells.lookup x=some c:=fun x c e=>by
    rw [JZ,List.lookup_append] at e;cases q:(cellsFrom (s.heap.objs.size+1) scope.names []).lookup x with
    | some c'=>rw [q] at e;cases e;exact .inl (PySem.mem_of_lookup q)
    | none=>rw [q] at e;exact .inr (hcl x c e)
  have outerLt:∀ x c,X.env.cells.lookup x=some c→c<s.heap.objs.size:=fun x c e=>by
    obtain⟨v,q⟩:=I.cell x c e;exact q.lt
  have ownGe:∀ x c,(x,c)∈cellsFrom (s.heap.objs.size+1) scope.names []→s.heap.objs.size+1≤c:=fun x c e=>(hC.empty x c e).2
  refine⟨⟨I.ok.mod,S.kind,I.ok.glob,I.ok.blt,Nat.le_refl _,fun x y c h1 h2=>?_,fun x hx=>?_,fun x c h1 h2=>?_,I.ok.hd,I.ok.frames,.inl rfl,fun b hb=>⟨Nat.ne_of_lt (hlt b hb),fun x c e=>?_⟩,fun b o e=>I.bs b o e,Nat.le_trans I.ok.bsz I.sz,fun b o e hb=>?_,fun b hb hz=>?_,I.stack,I.stkFree⟩,
    rfl,I.bare,Un.kept keep,⟨fun _=>none,?_,fun i x v h1 h2 h3=>?_⟩,fun x c e=>?_,I.hok.fresh (Nat.le_refl _),fun x c e=>?_,fun p hp=>?_,I.hok.kept keep,?_⟩
  · rcases look x c h1 with q|q<;>rcases look y c h2 with r|r
    · exact name_of_addr hC.apart q r
    · exact absurd (Nat.lt_trans (outerLt y c r) (ownGe x c q)) (Nat.lt_irrefl _)
    · exact absurd (Nat.lt_trans (outerLt x c q) (ownGe y c r)) (Nat.lt_irrefl _)
    · exact I.ok.inj x y c q r
  · have own:∀ k,scope.names.lookup x=some k→k=.cell∨k=.free→∃ c,(cellsFrom (s.heap.objs.size+1) scope.names cl).lookup x=some c:=fun k hk hkk=>by
      refine Option.isSome_iff_exists.mp (PySem.W.cellsFrom_some _ _ _ ?_)
      rcases hkk with rfl|rfl
      · exact .inl hk
      · obtain⟨c,q⟩:=hcl2 x (PySem.mem_of_lookup hk)
        exact .inr (by rw [q];rfl)
    rcases hx with hx|hx
    · obtain⟨k',e,q|q⟩:=ze5 (scope:=scope) (env:=X.env) hx
      · subst q;exact own _ e (.inl rfl)
      · exact own _ e (.inr q.1)
    · obtain⟨k',e,q|q⟩:=ze5 (scope:=scope) (env:=X.env) hx
      · subst q;exact own _ e (.inr rfl)
      · cases q.2
  · have hc:scope.names.lookup x=some .cell:=of_decide_eq_true h1
    rcases look x c h2 with q|q
    · exact Nat.le_of_lt (ownGe x c q)
    · exfalso
      have h2':(cellsFrom (s.heap.objs.size+1) scope.names cl).lookup x=some c:=h2;rw [JZ,List.lookup_append] at h2';obtain⟨c',q'⟩:=Option.isSome_iff_exists.mp (PySem.W.cellsFrom_some scope.names (s.heap.objs.size+1) [] (.inl hc));rw [q'] at h2';cases h2';exact absurd (Nat.lt_trans (outerLt x c q) (ownGe x c (PySem.mem_of_lookup q'))) (Nat.lt_irrefl _)
  · rcases look x c e with q|q
    · intro z;subst z
      exact absurd (Nat.lt_trans (hlt c hb) (ownGe x c q)) (Nat.lt_irrefl _)
    · exact(hfp b hb).2.2.2.2.1 x c q
  · rcases(hfp b hb).2.2.2.1 with z|z
    · exact I.ok.noex b o e z
    · exact absurd (Nat.lt_of_lt_of_le (Heap.lt_size (I.ok.bs b o e).1) z) (Nat.lt_irrefl _)
  · rcases List.mem_cons.mp (I.stkSub b hz) with z|z
    · exact(hfp b hb).2.1 z
    · exact(hfp b hb).2.2.1 z
  · exact(Heap.Ns.new s.heap (.type "dict")).keeps (pushCells_keeps _ _)
  · unfold cst at h2
    by_cases hi:i<tn.length
    · rw [List.getElem?_append_left (by simpa using hi),List.getElem?_replicate,if_pos hi] at h2
      cases h2
    · rw [List.getElem?_append_right (by simpa using hi),List.length_replicate,List.getElem?_map] at h2
      cases ej:js[i - tn.length]? with
      | none=>rw [ej] at h2;cases h2
      | some j=>
        rw [ej] at h2;have h2':(σ[j]?).join=some v:=Option.some.inj h2;have hσ : σ[j]?=some (some v):=by
          cases q:σ[j]? with
          | none=>rw [q] at h2';cases h2'
          | some o => rw [q] at h2'; cases o with
            | none=>cases h2'
            | some v'=>cases h2';rfl
        have h1':(tn++fn)[i]?=some x:=h1;rw [List.getElem?_append_right (by omega)] at h1'
        have hN:X.N[j]?=some x:=by
          have e:=congrArg (fun l=>l[i - tn.length]?) hj
          simp only [List.getElem?_map,ej,h1',Option.map_some] at e;exact Option.some.inj e
        have hfx:scope.names.lookup x=some .free:=S.frees x (List.mem_of_getElem? h1');obtain⟨m,hn,hl⟩:=I.loc;have ok:X.env.scope.names.lookup x=some .cell∨X.env.scope.names.lookup x=some .free:=S.free (x,.free) (PySem.mem_of_lookup hfx) rfl;obtain⟨u,r,l⟩:=hl j x v hN hσ (by rcases ok with z|z;exact .inr (.inl z);exact .inr (.inr z))
        refine⟨u,r,.inr ⟨zni hfx,?_⟩⟩
        rcases l with ⟨k,_⟩|⟨_,c,ec,q⟩
        · have k':X.env.scope.names.lookup x=some .local:=k
          rcases ok with z|z<;>rw [z] at k'<;>cases k'
        · refine⟨c,?_,q.keeps keep⟩
          show(cellsFrom (s.heap.objs.size+1) scope.names cl).lookup x=some c
          rw [JZ,List.lookup_append];have e1:(cellsFrom (s.heap.objs.size+1) scope.names []).lookup x=none:=by
            cases q1:(cellsFrom (s.heap.objs.size+1) scope.names []).lookup x with
            | none=>rfl
            | some c1=>
              have e2:=S.cell (x,.cell) (zdR _ _ _ _ (PySem.mem_of_lookup q1)) rfl;have e2':scope.names.lookup x=some .cell:=e2;rw [hfx] at e2';cases e2'
          obtain⟨c2,q2⟩:=hcl2 x (PySem.mem_of_lookup hfx);have:=hcl x c2 q2;rw [ec] at this;cases this;rw [e1,q2];rfl
  · rcases look x c e with q|q
    · exact⟨_,(hC.empty x c q).1⟩
    · obtain⟨v,z⟩:=I.cell x c q
      exact⟨v,z.keeps keep⟩
  · rcases look x c e with q|q
    · exact I.hok.fresh (Nat.le_of_lt (ownGe x c q))
    · exact I.freeC x c q
  · exact absurd (show p∈([]:List (Addr×Obj)) from hp) (by simp)
  · unfold cst
    show _=(tn++fn).length
    have:js.length=fn.length:=by have:=congrArg List.length hj;simpa using this
    rw [List.length_append,List.length_replicate,List.length_map,List.length_append,this]
section
variable {X:Cx} {pins:List (Addr×Obj)} {σ : L2.St} {H:Hp} {s:Shared} {h':Heap}
theorem Inv.turnedL {t':Nat} {ch:List Addr} (I:Inv X pins σ H s) (k:∀ b o,b∉ch→s.heap.get? b=some o→h'.get? b=some o) (hf:∀ b∈ch,FpOk X pins H b):Inv X pins σ H { s with heap:=h',toks:=t' }:=by
  have nit:∀ b u,H b=some u→b∉ch:=fun b u e z=>by have:=(hf b z).1;rw [e] at this;cases this
  refine I.step (g':=s.gens) (d':=s.drawn) (ch:=ch) (fun b hb=>⟨(hf b hb).2.2.2.1,(hf b hb).2.1,(hf b hb).2.2.2.2.1,(hf b hb).2.2.2.2.2⟩) (fun b o _ _ hc e _=>k b o hc e) (fun b o _ _ hc e _=>⟨o.slots,k b o hc e⟩) (fun _ _ _ _ n=>n)
    (fun b o hc e=>⟨o,k b o hc e⟩) (fun _ _ e=>e) (fun _ _ _ e=>e) (fun b ps e=>⟨#[],by rw [e];simp⟩) (fun m hm=>?_) (fun b u e=>?_) I.bare
  · obtain⟨o,es,ep,ho,r⟩:=hm
    exact⟨o,es,ep,k _ o (fun z=>(hf _ z).2.1 rfl) ho,r⟩
  · refine(I.hok b u e).stay (fun c v hc q=>k c v ?_ q) (fun _ q=>q) fun _ _ q=>q
    rcases hc with z|z
    · rw [z];exact nit b u e
    · exact nit c _ z
theorem Inv.track {a:Addr} {o:HO} (I:Inv X pins σ H s) (hn:H a=none) (h0:X.s₀.heap.objs.size≤a) (hL:a≠X.env.locals) (hc:∀ x c,X.env.cells.lookup x=some c→c≠a) (hp:∀ p∈X.pn++pins,p.1≠a) (new:zK X.prog X.w (upd H a o) s.heap a o):Inv X pins σ (upd H a o) s:=by
  have no0:∀ b ob,X.s₀.heap.get? b=some ob→b≠a:=fun b ob e=>Nat.ne_of_lt (Nat.lt_of_lt_of_le (Heap.lt_size e) h0)
  refine⟨I.ok,I.os,I.bare,⟨I.base.keep,I.base.slot,fun b ob q n hx=>?_,I.base.there,fun b xs q=>?_,fun b ob u q=>?_,fun b ps q=>?_⟩,I.loc,I.cell,?_,fun x c e=>?_,fun p h=>?_,I.hok.track hn new,I.len⟩
  · rw [zd (no0 b ob q)];exact I.base.free b ob q n hx
  · have e:=I.base.tups b xs q;rw [zd (zG e hn)];exact e
  · have e:=I.base.frzs b ob u q;rw [zd (zG e hn)];exact e
  · obtain⟨m,e⟩:=I.base.tbls b ps q;exact⟨m,by rw [zd (zG e hn)];exact e⟩
  · rw [zd (Ne.symm hL)];exact I.free
  · rw [zd (hc x c e)];exact I.freeC x c e
  · obtain⟨q1,q2,q3⟩:=I.pin p h
    exact⟨q1,by rw [zd (hp p h)];exact q2,q3⟩
end
def tTrue:TT:=fun _ H Q=>Q true H
def zcb (wi:TI) (g:TG) (tt:TT) (te:TE) (n:Nat) (js:List Nat):TE:=fun σ H Q=>wi σ H fun J H1=>∀ D,H1 D=none→∃ W:Nat→Nat→List V→St→Hp→Prop,(∃ m,W 0 m [] (cst n js σ) (upd H1 D (.lst [])))∧∀ i m ys σ1 H2,W i m ys σ1 H2→
  (J.stop i H2∧Q (.ref D) H2)∨(J.go i H2∧∀ x H3,J.yld i H2 x H3→g x σ1 H3 fun σ4 H4=>tt σ4 H4 fun b H5=>if b=true then te σ4 H5 fun y H6=>H6 D=some (.lst ys)∧ys.length<sizeLine∧∃ m',m'<m∧W (i+1) m' (ys++[y]) σ4 (upd H6 D (.lst (ys++[y]))) else ∃ m',m'<m∧W (i+1) m' ys σ4 H5)
def PTs (X:Cx) (ifs:List Expr) (t:TT):Prop:=
  ∀ (pins:List (Addr×Obj)) (s:Shared) (σ : St) (H:Hp) (Q:Bool→Hp→Prop),Inv X pins σ H s→t σ H Q→
    wpAny (model X.prog X.w) X.A (forIn ifs true fun c r=>if r=true then do let ok ←isTrue c X.env (eval c X.env);pure (ForInStep.yield ok) else pure (ForInStep.yield r)) (TP X pins σ Q) X.xe s
theorem zmx {X:Cx}:PTs X [] tTrue:=fun _ _ _ H _ I h=>wpAny_tests_nil ⟨H,I,h⟩
theorem zle {X:Cx} {c:Expr} {t:TT} (h:PT X c t):PTs X [c] t:=fun pins s σ H Q I q=>wpAny_tests_one (h pins s σ H Q I q)
theorem zhB {X:Cx} {elt tg iter:Expr} {ifs:List Expr} {scope:Scope} {pos pos':Pos} {wi:TI} {g:TG} {tt:TT} {te:TE} {use:Option (Value→Sem Unit)} {Qc:Value→Shared→Prop} (tn fn:List Str) (js:List Nat) (hcalm:X.calm=true) (S:CompSc X.env.scope scope tn fn) (hj:js.map (fun j=>X.N[j]?)=fn.map some) (hi:PI X tg iter wi)
    (hb:∀ s H fp cl,PG (X.comp scope (tn++fn) s H fp cl) tg g∧PTs (X.comp scope (tn++fn) s H fp cl) ifs tt∧PE (X.comp scope (tn++fn) s H fp cl) elt te)
    (hs:∀ x,foldedSetIterable iter X.env x=pure x) {pins:List (Addr×Obj)} {s:Shared} {σ : L2.St} {H:Hp} {Q:VK} (I:Inv X pins σ H s) (h:zcb wi g tt te tn.length js σ H Q)
    (fin:∀ (D C:Addr) (s6:Shared) (H5:Hp) (m6:Str→Option Value),s6.heap.Ns C m6→FpOk X pins H5 C→Inv X pins σ H5 s6→Q (.ref D) H5→compPost (model X.prog X.w) X.A X.xe use Qc (.ref D) C (.ok .next) s6) :
    wpAny (model X.prog X.w) X.A (comprehension (.ListComp elt [⟨tg,iter,ifs,0⟩] scope pos) scope X.env pos' (newList []) false (eval iter X.env) use) Qc X.xe s:=by
  obtain⟨cl,hclos,hcl,hcl2⟩:=zkG (env:=X.env) (scope:=scope) (fun x hx e=>I.ok.has x.1 (S.free x hx e))
  refine wpAny_comprehension_free (use:=use) rfl hs hclos S.kind S.loc (thn (hi pins s σ H _ I h) fun v s1 h1=>thn h1 fun itv s2 h2=>?_)
  obtain⟨it,fp,tn',J,H2,e,I2,T,st2,f2,k⟩:=h2;subst e;have hD:H2 s2.heap.objs.size=none:=I2.fresh;obtain⟨W,⟨m0,w0⟩,turn⟩:=k _ hD;refine wpAny_newObj_type ?_;have I3:Inv X pins σ (upd H2 s2.heap.objs.size (.lst [])) { s2 with heap:=s2.heap.push { cls:=.type "list", data:=.seq ([]:List Value).toArray } }:=I2.lnew (t':=s2.toks) (ys:=[]) (its:=[]) .nil (Nat.zero_le _)
  generalize hs3:({ s2 with heap:=s2.heap.push { cls:=.type "list", data:=.seq ([]:List Value).toArray } }:Shared)=s3 at I3
  have hs3':s3.heap.objs.size=s2.heap.objs.size+1:=by rw [←hs3];exact Heap.size_push ..
  have up3:∀ b o,s2.heap.get? b=some o→s3.heap.get? b=some o:=fun b o e=>by rw [←hs3];exact Heap.get?_push_of_some _ e
  have flt:∀ b∈fp,b<s2.heap.objs.size:=fun b hb=>by
    obtain⟨o,e,_⟩:=T.obj _ _ st2 b hb;exact Heap.lt_size e
  generalize hDn:s2.heap.objs.size=D at *;have f3:∀ b∈fp,FpOk X pins (upd H2 D (.lst [])) b:=fun b hb=>⟨by rw [zd (Nat.ne_of_lt (flt b hb))];exact(f2 b hb).1,(f2 b hb).2⟩
  have flt3:∀ b∈fp,b<s3.heap.objs.size:=fun b hb=>by rw [hs3'];exact Nat.lt_succ_of_lt (flt b hb)
  have I4:=zj0 I3 S hj f3 flt3 hcl hcl2;have st4:tn' 0 (pushCells (s3.heap.push { cls:=.type "dict", data:=.dict #[] }) scope.names):=T.keep _ _ _ st2 fun b _ o e=>pushCells_keeps _ _ b o (Heap.get?_push_of_some _ (up3 b o e))
  obtain⟨pg,pt,pe⟩:=hb s3 (upd H2 D (.lst [])) fp cl;generalize hX:X.comp scope (tn++fn) s3 (upd H2 D (.lst [])) fp cl=Y at I4 pg pt pe;have Yp:Y.prog=X.prog:=by rw [←hX];rfl
  have Yw:Y.w=X.w:=by rw [←hX];rfl
  have YK:Y.K=X.K:=by rw [←hX];rfl
  have YA:Y.A=X.A:=by rw [←hX];rfl
  have Yc:Y.calm=true:=by rw [←hX];exact hcalm
  have Yxe:Y.xe=fun _ _=>False:=by rw [←hX];rfl
  have Yex:Y.ex=fp:=by rw [←hX];rfl
  have Yfs:Y.fs=frs X.stack:=by rw [←hX];rfl
  have Ypn:Y.pn=[]:=by rw [←hX];rfl
  have Ys:Y.s₀ = s3:=by rw [←hX];rfl
  have YH:Y.H₀ = upd H2 D (.lst []):=by rw [←hX];rfl
  have YC:Y.env.locals=s3.heap.objs.size:=by rw [←hX];rfl
  have Yenv:({ scope:=relabel scope X.env,locals:=s3.heap.objs.size,globals:=X.env.globals,cells:=cellsFrom (s3.heap.objs.size+1) scope.names cl,qual:=X.env.qual,func:=none,code:=X.env.code,frame:=X.env.frame,builtins:=X.env.builtins }:Env)=Y.env:=by rw [←hX];rfl
  have stat:∀ {H':Hp},(∀ b∈fp,H' b=none)→∀ b∈fp,FpOk Y [] H' b:=fun hn b hb=>by
    refine⟨hn b hb,?_,?_,.inl (by rw [Yex];exact hb),fun x c e=>(I4.ok.exf b (by rw [Yex];exact hb)).2 x c e,fun p hp=>?_⟩
    · rw [YC];exact Nat.ne_of_lt (flt3 b hb)
    · exact I4.ok.exfs b (by rw [Yex];exact hb)
    · rw [Ypn] at hp;exact absurd (show p∈([]:List (Addr×Obj)) from hp) (by simp)
  have loop:codeAny (model X.prog X.w) X.A (.compLoop (.ListComp elt [⟨tg,iter,ifs,0⟩] scope pos) 0 (.ref it) (.ref D) Y.env) (compPost (model X.prog X.w) X.A X.xe use Qc (.ref D) s3.heap.objs.size)
      { s3 with heap:=pushCells (s3.heap.push { cls:=.type "dict", data:=.dict #[] }) scope.names }:=by
    refine codeAny_loop rfl (fun n s'=>∃ i ys σ' H',Inv Y [] σ' H' s'∧tn' i s'.heap∧(∀ b∈fp,H' b=none)∧W i n ys σ' H') (fun n s5 hI=>?_) m0 ⟨0,[],_,_,I4,st4,fun b hb=>(f3 b hb).1,w0⟩
    obtain⟨i,ys,σ5,H5,I5,st5,fr5,w5⟩:=hI;show wpAny _ X.A ((compTurn (.ListComp elt [⟨tg,iter,ifs,0⟩] scope pos) 0 (.ref it) (.ref D) Y.env).onRaise (fun x=>do noteFrame x Y.env;theTreesLotGoes x)) _ _ s5
    refine wpAny_noted ?_
    rw [compTurn_list];refine wpAny_bind (wpAny_standAt (wpAny_bind ?_))
    rcases turn i n ys σ5 H5 w5 with ⟨stop,qn⟩|⟨go,step⟩
    · have d:=T.done Y Yp Yw YK Yc i [] s5 σ5 H5 (fun _ _=>False) I5 (stat fr5) st5 stop
      rw [YA] at d;refine wpAny_mono d (fun r s6 ⟨hr,I6⟩=>?_) fun _ _ z=>z.elim
      subst hr;refine wpAny_pure ?_;obtain⟨m6,ns6,_⟩:=I6.loc;rw [YC] at ns6;have hC:H5 s3.heap.objs.size=none:=by have:=I6.free;rwa [YC] at this
      have u6:=I6.base;rw [Yfs,Yex,YH,Ys] at u6;have os6:=I6.os;rw [Ys] at os6;have hok6:=I6.hok;rw [Yp,Yw] at hok6;have IX:Inv X pins σ H5 s6:=I3.call' (s':=s6) os6 u6 hok6 I6.bare (fun b hb=>⟨(f3 b hb).2.2.2.1,(f3 b hb).2.1,(f3 b hb).2.2.2.2.1,(f3 b hb).2.2.2.2.2⟩)
      exact fin D s3.heap.objs.size s6 H5 m6 ns6 (I3.fpOk (H':=H5) (Nat.le_refl _) hC) IX qn
    · have d:=T.item Y Yp Yw YK Yc i [] s5 σ5 H5 (fun _ _=>False) I5 (stat fr5) st5 go
      rw [YA] at d;refine wpAny_mono d (fun r s6 ⟨u,hr,h6⟩=>?_) fun _ _ z=>z.elim
      subst hr;refine wpAny_bind (wpAny_mono h6 (fun _ s7 ⟨x,H7,I7,r7,y7,st7,fr7⟩=>?_) fun _ _ z=>z.elim)
      have I7':=I7.pinned (stat fr7) (T.obj _ _ st7);have a8:=pg _ s7 σ5 H7 x u _ I7' r7 (step x H7 y7);rw [YA,Yp,Yw,Yxe] at a8;refine wpAny_bind (wpAny_mono a8 (fun _ s8 ⟨σ8,H8,I8,q8⟩=>?_) fun _ _ z=>z.elim)
      have a9:=pt _ s8 σ8 H8 _ I8 q8;rw [YA,Yp,Yw,Yxe] at a9;have again:∀ {H':Hp} {s':Shared} {ys':List V} {m':Nat},m'<n→Inv Y ([]++zaY fp s7.heap) σ8 H' s'→W (i+1) m' ys' σ8 H'→∃ m,m<n∧∃ i ys σ' H',Inv Y [] σ' H' s'∧tn' i s'.heap∧(∀ b∈fp,H' b=none)∧W i m ys σ' H':=fun {H' s' ys' m'} hm I' w'=>by
        refine⟨m',hm,i+1,ys',σ8,H',I'.unpinned,T.keep _ _ _ st7 fun b hb o e=>(I'.pin (b,o) (List.mem_append_right _ (List.mem_append_right _ (zbR hb e)))).1,fun b hb=>?_,w'⟩
        obtain⟨o,e,d⟩:=T.obj _ _ st7 b hb;exact(I'.pin (b,o) (List.mem_append_right _ (List.mem_append_right _ (zbR hb e)))).2.1
      refine wpAny_bind (wpAny_mono a9 (fun ok s9 ⟨H9,I9,q9⟩=>?_) fun _ _ z=>z.elim)
      cases ok with
      | false=>
        obtain⟨m',hm,w9⟩:=q9;exact wpAny_pure ⟨rfl,again hm I9 w9⟩
      | true=>
        have a10:=pe _ s9 σ8 H9 _ I9 q9;rw [YA,Yp,Yw,Yxe] at a10;refine wpAny_bind (wpAny_bind (wpAny_mono a10 (fun y10 s10 ⟨y,H10,I10,r10,e10,hz,m',hm,w10⟩=>?_) fun _ _ z=>z.elim))
        have a11:=zeQ (X:=Y) _ s10 σ8 H10 (.ref D) [y] (.ref D) [y10] (fun _ H'=>H'=upd H10 D (.lst (ys++[y]))) I10 rfl (.cons r10 .nil) ⟨D,ys,y,rfl,rfl,e10,hz,rfl⟩
        rw [YA,Yp,Yw,Yxe] at a11;refine wpAny_bind (wpAny_mono a11 (fun _ s11 ⟨_,H11,I11,_,e11⟩=>?_) fun _ _ z=>z.elim)
        subst e11;exact wpAny_pure (wpAny_pure ⟨rfl,again hm I11 w10⟩)
  have env4:wpAny (model X.prog X.w) X.A (newFunctionEnv scope X.env.globals cl [] X.env.qual none .none (some X.env)) (fun cenv s₄=>
      codeAny (model X.prog X.w) X.A (.compStart (.ListComp elt [⟨tg,iter,ifs,0⟩] scope pos) 0 (.ref it) (.ref D) { cenv with scope:=relabel scope X.env }) (compPost (model X.prog X.w) X.A X.xe use Qc (.ref D) cenv.locals) s₄) X.xe s3:=by
    simp only [newFunctionEnv,Option.isSome_some,if_true];refine wpAny_bind (wpAny_alloc ?_);refine wpAny_bind (wpAny_layCells _ (fun name kind cells=>by cases hkc:kind==NameKind.cell<;>simp [hkc]) _ _ _ _ ?_)
    rw [List.forIn_nil];refine wpAny_bind (wpAny_pure (wpAny_pure ?_));rw [show({ s3 with heap:=s3.heap.push { cls:=.type "dict", data:=.dict #[] } }:Shared).heap.objs.size=s3.heap.objs.size+1 from Heap.size_push ..]
    dsimp only;rw [Yenv];exact codeAny_compStart_list loop (T.self _ 0 _ _ _ st4 loop)
  exact env4
theorem zlX {X:Cx} {elt tg iter:Expr} {ifs:List Expr} {scope:Scope} {pos:Pos} {wi:TI} {g:TG} {tt:TT} {te:TE} (tn fn:List Str) (js:List Nat) (hcalm:X.calm=true) (S:CompSc X.env.scope scope tn fn) (hj:js.map (fun j=>X.N[j]?)=fn.map some) (hi:PI X tg iter wi)
    (hb:∀ s H fp cl,PG (X.comp scope (tn++fn) s H fp cl) tg g∧PTs (X.comp scope (tn++fn) s H fp cl) ifs tt∧PE (X.comp scope (tn++fn) s H fp cl) elt te)
    (hs:∀ x,foldedSetIterable iter X.env x=pure x:=by intro _;rfl) :
    PE X (.ListComp elt [⟨tg,iter,ifs,0⟩] scope pos) (zcb wi g tt te tn.length js):=by
  intro pins s σ H Q I h;rw [eval_ListComp];refine zhB (use:=none) tn fn js hcalm S hj hi hb hs I h fun D C s6 H5 m6 ns6 hC I6 q=>⟨m6,ns6,fun h' sb=>⟨.ref D,H5,?_,rfl,q⟩⟩
  exact I6.turnedL (t':=s6.toks) (ch:=[C]) (fun b o hb e=>sb.extBut b o (by simpa using hb) e) fun b hb=>by
    have e:b=C:=by simpa using hb
    subst e;exact hC
theorem zie {X:Cx} {elt tg iter:Expr} {ifs:List Expr} {scope:Scope} {pos spos pos':Pos} {wi:TI} {g:TG} {tt:TT} {te:TE} {i:Nat} {x:Str} (hN:X.N.Nodup) (hix:X.N[i]?=some x) (hx:Loc X.env.scope x) (tn fn:List Str) (js:List Nat) (hcalm:X.calm=true) (S:CompSc X.env.scope scope tn fn) (hj:js.map (fun j=>X.N[j]?)=fn.map some) (hi:PI X tg iter wi)
    (hb:∀ s H fp cl,PG (X.comp scope (tn++fn) s H fp cl) tg g∧PTs (X.comp scope (tn++fn) s H fp cl) ifs tt∧PE (X.comp scope (tn++fn) s H fp cl) elt te)
    (hs:∀ x,foldedSetIterable iter X.env x=pure x:=by intro _;rfl)
    (hsw:swapsWith (.ListComp elt [⟨tg,iter,ifs,0⟩] scope pos) (some (.Name x pos')) spos.line X.env=pure true:=by rfl) (hf:X.fn x=true∨X.env.scope.names.lookup x=some .local:=by first|exact .inl rfl|exact .inr rfl|assumption) :
    PS X (.Assign [.Name x pos'] (.ListComp elt [⟨tg,iter,ifs,0⟩] scope pos) spos) (tAsg (zcb wi g tt te tn.length js) (zef i)):=by
  intro pins s σ H D I h;rw [exec_Assign_Name_used _ _ _ _ hsw];refine wpAny_bind (wpAny_standAt (wpAny_bind ?_));show wpAny _ X.A (do let _ ←comprehension (.ListComp elt [⟨tg,iter,ifs,0⟩] scope pos) scope X.env _ (newList []) false (eval iter X.env) (some (assign (.Name x pos') X.env))) _ _ s
  refine wpAny_bind (wpAny_mono (zhB (use:=some (assign (.Name x pos') X.env)) (Qc:=fun _ s'=>SP X pins D .next s') tn fn js hcalm S hj hi hb hs I h fun L C s6 H5 m6 ns6 hC I6 q=>?_) (fun _ s' hq=>wpAny_pure (wpAny_pure hq)) fun _ _ e=>e)
  show wpAny _ X.A (assign (.Name x pos') X.env (.ref L)) _ _ s6
  refine wpAny_assign_Name (zfQ I6 hN hix hx (v:=.ref L) rfl (fun s7 I7 k7=>?_) hf)
  have kC:∃ m7,s7.heap.Ns C m7:=by
    obtain⟨a,sb,ha⟩:=k7;refine⟨m6,ns6.sameBut sb fun z=>?_⟩
    rcases ha with e|e
    · exact hC.2.1 (z.trans e)
    · exact hC.2.2.2.2.1 x a e z.symm
  obtain⟨m7,ns7⟩:=kC;refine⟨m7,ns7,fun h' sb=>⟨_,H5,I7.turnedL (t':=s7.toks) (ch:=[C]) (fun b o hb e=>sb.extBut b o (by simpa using hb) e) fun b hb=>?_,q⟩⟩
  have e:b=C:=by simpa using hb
  subst e;exact hC
theorem RdVs.length {K:PySem.W.Frag} {H:Hp} {xs:List V} {ds:List PyData} (h:RdVs K H xs ds):xs.length=ds.length:=by
  induction xs generalizing ds with
  | nil=>cases h;rfl
  | cons x xs ih=>cases h with|cons a b=>rw [List.length_cons,List.length_cons,ih b]
theorem RdVs.get {K:PySem.W.Frag} {H:Hp} {xs:List V} {ds:List PyData} {i:Nat} {d:PyData} (h:RdVs K H xs ds) (e:ds[i]?=some d):∃ x,xs[i]?=some x∧RdV K H x d:=by
  induction xs generalizing ds i with
  | nil=>cases h;simp at e
  | cons x xs ih=>
    cases h with
    | cons a b=>
      cases i with
      | zero=>cases e;exact⟨_,rfl,a⟩
      | succ i=>
        obtain⟨x,h1,h2⟩:=ih b (i:=i) (by simpa using e)
        exact⟨x,by simpa using h1,h2⟩
theorem RdVs.append {K:PySem.W.Frag} {H:Hp} {xs ys:List V} {ds es:List PyData} (h:RdVs K H xs ds) (h':RdVs K H ys es):RdVs K H (xs++ys) (ds++es):=by
  induction xs generalizing ds with
  | nil=>cases h;exact h'
  | cons x xs ih=>cases h with|cons a b=>exact .cons a (ih b)
theorem RdVs.set {K:PySem.W.Frag} {H:Hp} {x:V} {d:PyData} (h:RdV K H x d) {xs:List V} {ds:List PyData} (i:Nat) (r:RdVs K H xs ds):RdVs K H (xs.set i x) (ds.set i d):=by
  induction xs generalizing ds i with
  | nil=>cases r;exact .nil
  | cons y xs ih=>
    cases r with
    | cons a b=>
      cases i with
      | zero=>exact .cons h b
      | succ i=>exact .cons a (ih i b)
theorem RdVs.take {K:PySem.W.Frag} {H:Hp} {xs:List V} {ds:List PyData} (i:Nat) (r:RdVs K H xs ds):RdVs K H (xs.take i) (ds.take i):=by
  induction xs generalizing ds i with
  | nil=>cases r;rw [List.take_nil,List.take_nil];exact .nil
  | cons y xs ih=>
    cases r with
    | cons a b=>
      cases i with
      | zero=>exact .nil
      | succ i=>exact .cons a (ih i b)
theorem RdVs.drop {K:PySem.W.Frag} {H:Hp} {xs:List V} {ds:List PyData} (i:Nat) (r:RdVs K H xs ds):RdVs K H (xs.drop i) (ds.drop i):=by
  induction xs generalizing ds i with
  | nil=>cases r;rw [List.drop_nil,List.drop_nil];exact .nil
  | cons y xs ih=>
    cases r with
    | cons a b=>
      cases i with
      | zero=>exact .cons a b
      | succ i=>exact ih i b
theorem RdVs.eraseIdx {K:PySem.W.Frag} {H:Hp} {xs:List V} {ds:List PyData} (i:Nat) (r:RdVs K H xs ds):RdVs K H (xs.eraseIdx i) (ds.eraseIdx i):=by
  induction xs generalizing ds i with
  | nil=>cases r;exact .nil
  | cons y xs ih=>
    cases r with
    | cons a b=>
      cases i with
      | zero=>exact b
      | succ i=>exact .cons a (ih i b)
def tab0 (P:Addr):HO:=.ext fun h=>h.get? P=some (PySem.W.tabObj #[])
def tabA (P c':Addr) (pos:Pos):HO:=.ext fun h=>∃ ps,h.get? P=some (PySem.W.tabObj ps)∧TriplesOk ps.toList∧codeAmong pos ps.toList=some (.ref c')
def zb2 (c':Addr) (q:Str):HO:=.ext fun h=>h.CodeRec (.ref c') q
def bagO (a:Addr):HO:=.ext fun h=>∃ (n:Int) (v:Value) (k:Nat),RelV (.int n) v∧h.get? a=some { cls:=.type "list", data:=.seq #[v] k }
class LamW where
  pos:Pos
  q:Str
  C:Addr
def Lk [LamW] (P:Addr) (H:Hp):Prop:=∃ c',H P=some (tabA P c' LamW.pos)∧H c'=some (zb2 c' LamW.q)
variable [LamW]
def zt (H H':Hp):Prop:=∀ b o,H b=some o→H' b=some o∨(o=tab0 b∧(tab0 b≠bagO b∧∀ q,tab0 b≠zb2 b q)∧Lk b H')
theorem Same.x {H H':Hp} (s:Same H H'):zt H H':=fun b o h=>.inl (s b o h)
theorem zt.refl (H:Hp):zt H H:=(Same.refl H).x
theorem zt.free {H H':Hp} (e:zt H H') {l:Addr} (h:H' l=none):H l=none:=by
  cases q:H l with
  | none=>rfl
  | some o=>
    rcases e l o q with z|⟨_,_,c',z,_⟩
    · rw [h] at z;cases z
    · rw [h] at z;cases z
theorem zt.at {H H':Hp} (e:zt H H') {b:Addr} {o:HO} (h:H b=some o) (n:∀ f,o≠.ext f:=by intro f z;cases z):H' b=some o:=by
  rcases e b o h with z|⟨z,_⟩
  · exact z
  · exact absurd z (n _)
theorem zt.bag {H H':Hp} (e:zt H H') {a:Addr} (h:H a=some (bagO a)):H' a=some (bagO a):=by
  rcases e a _ h with z|⟨z,n,_⟩
  · exact z
  · exact absurd z.symm n.1
theorem zt.code {H H':Hp} (e:zt H H') {a:Addr} {q:Str} (h:H a=some (zb2 a q)):H' a=some (zb2 a q):=by
  rcases e a _ h with z|⟨z,n,_⟩
  · exact z
  · exact absurd z.symm (n.2 q)
theorem Lk.same {P:Addr} {H H':Hp} (l:Lk P H) (e:zt H H'):Lk P H':=by
  obtain⟨c',h1,h2⟩:=l
  rcases e P _ h1 with z|⟨_,_,z⟩
  · exact⟨c',z,e.code h2⟩
  · exact z
theorem zt.trans {H H1 H2:Hp} (a:zt H H1) (b:zt H1 H2):zt H H2:=fun c o h=>by
  rcases a c o h with z|⟨e,n,l⟩
  · exact b c o z
  · exact .inr ⟨e,n,l.same b⟩
structure Sub (G H:Hp):Prop where
  s:Same G H
  cl:∀ a f,G a≠some (.ext f)
theorem Sub.free {G H:Hp} (e:Sub G H) {l:Addr} (h:H l=none):G l=none:=e.s.free h
theorem Sub.seq {K:PySem.W.Frag} {G H:Hp} {a:Addr} {xs:List V} (e:Sub G H) (h:SqL K G a xs):SqL K H a xs:=e.s.seq h
theorem Sub.tup {K:PySem.W.Frag} {G H:Hp} {a:Addr} {xs:List V} (e:Sub G H) (h:SqT K G a xs):SqT K H a xs:=e.s.tup h
theorem Sub.trans {G H H':Hp} (e:Sub G H) (x:zt H H'):Sub G H':=⟨fun b o h=>x.at (e.s b o h) (fun f z=>by rw [z] at h;exact e.cl b f h),e.cl⟩
theorem Lk.upd {b D:Addr} {H:Hp} {o:HO} (l:Lk b H) (nb:b≠D) (hD:∀ f,H D≠some (.ext f)):Lk b (upd H D o):=by
  obtain⟨c',h1,h2⟩:=l;exact⟨c',by rw [zd nb];exact h1,by rw [zd (fun y=>by rw [y] at h2;exact hD _ h2)];exact h2⟩
theorem zt.seq {K:PySem.W.Frag} {H H':Hp} {a:Addr} {xs:List V} (e:zt H H') (h:SqL K H a xs):SqL K H' a xs:=by
  rcases h with (h|⟨o,h⟩)|h
  · exact .inl (.inl (e.at h))
  · exact .inl (.inr ⟨o,e.at h⟩)
  · exact .inr h
theorem zt.tup {K:PySem.W.Frag} {H H':Hp} {a:Addr} {xs:List V} (e:zt H H') (h:SqT K H a xs):SqT K H' a xs:=by
  rcases h with (h|⟨o,h⟩)|h
  · exact .inl (.inl (e.at h))
  · exact .inl (.inr ⟨o,e.at h⟩)
  · exact .inr h
def cln (H:Hp):Hp:=fun a=>match H a with
  | some (.ext _)=>none
  | o=>o
theorem JJ {H:Hp} {a:Addr} {o:HO} (h:H a=some o) (n:∀ f,o≠.ext f:=by intro f z;cases z):cln H a=some o:=by
  unfold cln;rw [h];cases o<;>first|rfl|exact absurd rfl (n _)
theorem zcc (H:Hp):Sub (cln H) H:=by
  refine⟨fun b o h=>?_,fun a f h=>?_⟩
  · unfold cln at h
    cases e:H b with
    | none=>rw [e] at h;cases h
    | some u=>rw [e] at h;cases u<;>first|exact h|cases h
  · unfold cln at h
    cases e:H a with
    | none=>rw [e] at h;cases h
    | some u=>rw [e] at h;cases u<;>cases h
end L2
namespace L3
open PySem PySem.Spec PyProof.Rows L2
variable [LamW]
abbrev D:=PyData
inductive Fl where
  | sh (d:D)
  | ow (l:Addr) (ds:List D)
  | tp (l:Addr) (qs:List (Addr×Addr)) (ms:List (D×List D))
structure Ob where
  k:Option Addr
  a:Addr
  fs:List Fl
def tpD (ms:List (D×List D)):List D:=ms.map fun m=>.list [m.1,.list m.2]
def tpA (l:Addr) (qs:List (Addr×Addr)):List Addr:=l::qs.flatMap fun q=>[q.1,q.2]
def Fl.d:Fl→D
  | .sh d=>d
  | .ow _ ds=>.list ds
  | .tp _ _ ms=>.list (tpD ms)
def Fl.as:Fl→List Addr
  | .sh _=>[]
  | .ow l _=>[l]
  | .tp l qs _=>tpA l qs
def Ob.as (o:Ob):List Addr:=o.a::o.fs.flatMap Fl.as
inductive Cl where
  | sh (f:Bool) (d:D)
  | ow (f:Bool) (ds:List D)
  | ob (o:Ob)
  | lo (a:Addr) (os:List Ob)
  | fo (k:Option Addr) (ds:List D)
  | bg
def Cl.d:Cl→D
  | .sh _ d=>d
  | .ow _ ds=>.list ds
  | .ob _=>.none
  | .lo _ _=>.none
  | .fo _ _=>.none
  | .bg=>.none
def Cl.f:Cl→Bool
  | .sh f _=>f
  | .ow f _=>f
  | .ob _=>false
  | .lo _ _=>false
  | .fo _ _=>false
  | .bg=>false
def dN:List Str:=["names", "weights", "bounds", "spells", "rules", "row"]
def mN:List Str:=["names", "weights", "limits", "spells", "rules", "row"]
def obO (k:Option Addr) (vs:List V):HO:=match k with
  | some dx=>.ins LamW.C dx (dN.zip vs)
  | none=>.dK ((mN.map Sum.inr).zip vs)
def zx:D→Bool
  | .int _=>true|.bool _=>true|.str _=>true|.none=>true|_=>false
abbrev Env3:=List (Option Cl)
structure Gr (G H G' H':Hp):Prop where
  g:Same G G'
  h:zt H H'
  sub:Sub G' H'
  new:∀ b o,G' b=some o→G b=some o∨H b=none∨∃ xs,o=.tup xs
theorem Gr.refl {G H:Hp} (s:Sub G H):Gr G H G H:=⟨Same.refl _,zt.refl _,s,fun _ _ e=>.inl e⟩
theorem Gr.trans {G H G1 H1 G2 H2:Hp} (a:Gr G H G1 H1) (b:Gr G1 H1 G2 H2):Gr G H G2 H2:=
  ⟨a.g.trans b.g,a.h.trans b.h,b.sub,fun c o e=>by
    rcases b.new c o e with q|q|q
    · exact a.new c o q
    · exact .inr (.inl (a.h.free q))
    · exact .inr (.inr q)⟩
theorem Gr.put {G H:Hp} {p:Addr} {o:HO} (s:Sub G H) (hp:H p=none) (ho:∀ f,o≠.ext f:=by intro f z;cases z):Gr G H (upd G p o) (upd H p o):=
  ⟨z5 (s.free hp) o,(z5 hp o).x,⟨fun b u e=>by
    by_cases hb:b=p
    · subst hb;rw [zh] at e ⊢;exact e
    · rw [zd hb] at e ⊢;exact s.s b u e,fun b f e=>by
    by_cases hb:b=p
    · subst hb;rw [zh] at e;exact ho f (Option.some.inj e)
    · rw [zd hb] at e;exact s.cl b f e⟩,fun b u e=>by
    by_cases hb:b=p
    · subst hb;exact .inr (.inl hp)
    · rw [zd hb] at e;exact .inl e⟩
theorem Gr.apart {G H:Hp} {p:Addr} {o:HO} (s:Sub G H) (hp:H p=none):Gr G H G (upd H p o):=
  ⟨Same.refl _,(z5 hp o).x,s.trans (z5 hp o).x,fun _ _ e=>.inl e⟩
mutual
theorem jx {K:PySem.W.Frag} {H H':Hp} (e:Same H H'):∀ {x:V} {d:D},RdV K H x d→RdV K H' x d
  | _,_,.non=>.non
  | _,_,.bl b=>.bl b
  | _,_,.int i=>.int i
  | _,_,.str x=>.str x
  | _,_,.lst q r=>.lst (e.seq q) (rdvs_same e r)
  | _,_,.tup q r=>.tup (e.tup q) (rdvs_same e r)
theorem rdvs_same {K:PySem.W.Frag} {H H':Hp} (e:Same H H'):∀ {xs:List V} {ds:List D},RdVs K H xs ds→RdVs K H' xs ds
  | _,_,.nil=>.nil
  | _,_,.cons a b=>.cons (jx e a) (rdvs_same e b)
end
theorem zfv {K:PySem.W.Frag} {H:Hp} {a:Addr} {xs:List V} (h:SqL K H a xs):SqL K (cln H) a xs:=by
  rcases h with (h|⟨o,h⟩)|h
  · exact .inl (.inl (JJ h))
  · exact .inl (.inr ⟨o,JJ h⟩)
  · exact .inr h
theorem znF {K:PySem.W.Frag} {H:Hp} {a:Addr} {xs:List V} (h:SqT K H a xs):SqT K (cln H) a xs:=by
  rcases h with (h|⟨o,h⟩)|h
  · exact .inl (.inl (JJ h))
  · exact .inl (.inr ⟨o,JJ h⟩)
  · exact .inr h
mutual
theorem zbG {K:PySem.W.Frag} {H:Hp}:∀ {x:V} {d:D},RdV K H x d→RdV K (cln H) x d
  | _,_,.non=>.non
  | _,_,.bl b=>.bl b
  | _,_,.int i=>.int i
  | _,_,.str x=>.str x
  | _,_,.lst q r=>.lst (zfv q) (rdvs_cln r)
  | _,_,.tup q r=>.tup (znF q) (rdvs_cln r)
theorem rdvs_cln {K:PySem.W.Frag} {H:Hp}:∀ {xs:List V} {ds:List D},RdVs K H xs ds→RdVs K (cln H) xs ds
  | _,_,.nil=>.nil
  | _,_,.cons a b=>.cons (zbG a) (rdvs_cln b)
end
mutual
inductive RdN (K:PySem.W.Frag) (H0 G:Hp):V→D→Prop
  | non:RdN K H0 G .non .none
  | bl (b):RdN K H0 G (.bl b) (.bool b)
  | int (i):RdN K H0 G (.int i) (.int i)
  | str (x):RdN K H0 G (.str x) (.str x)
  | lst {a xs ds}:G a=some (.lst xs)→H0 a=none→RdNs K H0 G xs ds→RdN K H0 G (.ref a) (.list ds)
  | tup {a xs ds}:G a=some (.tup xs)→RdNs K H0 G xs ds→RdN K H0 G (.ref a) (.tuple ds)
inductive RdNs (K:PySem.W.Frag) (H0 G:Hp):List V→List D→Prop
  | nil:RdNs K H0 G [] []
  | cons {x xs d ds}:RdN K H0 G x d→RdNs K H0 G xs ds→RdNs K H0 G (x::xs) (d::ds)
end
mutual
theorem ze1 {K:PySem.W.Frag} {H0 G:Hp}:∀ {x:V} {d:D},RdN K H0 G x d→RdV K G x d
  | _,_,.non=>.non
  | _,_,.bl b=>.bl b
  | _,_,.int i=>.int i
  | _,_,.str x=>.str x
  | _,_,.lst q _ r=>.lst (SqL.of q) (rdns_rd r)
  | _,_,.tup q r=>.tup (SqT.of q) (rdns_rd r)
theorem rdns_rd {K:PySem.W.Frag} {H0 G:Hp}:∀ {xs:List V} {ds:List D},RdNs K H0 G xs ds→RdVs K G xs ds
  | _,_,.nil=>.nil
  | _,_,.cons a b=>.cons (ze1 a) (rdns_rd b)
end
mutual
theorem j8 {K:PySem.W.Frag} {H0 H1 G G':Hp} (e:Same G G') (h:∀ a o,G a=some o→H0 a=none→H1 a=none):∀ {x:V} {d:D},RdN K H0 G x d→RdN K H1 G' x d
  | _,_,.non=>.non
  | _,_,.bl b=>.bl b
  | _,_,.int i=>.int i
  | _,_,.str x=>.str x
  | _,_,.lst q n r=>.lst (e _ _ q) (h _ _ q n) (rdns_mono e h r)
  | _,_,.tup q r=>.tup (e _ _ q) (rdns_mono e h r)
theorem rdns_mono {K:PySem.W.Frag} {H0 H1 G G':Hp} (e:Same G G') (h:∀ a o,G a=some o→H0 a=none→H1 a=none):∀ {xs:List V} {ds:List D},RdNs K H0 G xs ds→RdNs K H1 G' xs ds
  | _,_,.nil=>.nil
  | _,_,.cons a b=>.cons (j8 e h a) (rdns_mono e h b)
end
theorem Jg {K:PySem.W.Frag} {H0 G:Hp} {v:V} {d:D} (h:zx d=true) (r:RdV K G v d):RdN K H0 G v d:=by
  cases r with
  | non=>exact .non
  | bl b=>exact .bl b
  | int i=>exact .int i
  | str s=>exact .str s
  | lst _ _=>cases h
  | tup _ _=>cases h
structure Rf (K:PySem.W.Frag) (H0 G:Hp) (f:Bool) (v:V) (d:D):Prop where
  rd:RdV K G v d
  nw:f=true→RdN K H0 G v d
structure Rfs (K:PySem.W.Frag) (H0 G:Hp) (f:Bool) (v:List V) (d:List D):Prop where
  rd:RdVs K G v d
  nw:f=true→RdNs K H0 G v d
theorem Rf.same {K:PySem.W.Frag} {H0 G G':Hp} {f:Bool} {v:V} {d:D} (r:Rf K H0 G f v d) (e:Same G G'):Rf K H0 G' f v d:=⟨jx e r.rd,fun h=>j8 e (fun _ _ _ n=>n) (r.nw h)⟩
theorem Rfs.same {K:PySem.W.Frag} {H0 G G':Hp} {f:Bool} {v:List V} {d:List D} (r:Rfs K H0 G f v d) (e:Same G G'):Rfs K H0 G' f v d:=⟨rdvs_same e r.rd,fun h=>rdns_mono e (fun _ _ _ n=>n) (r.nw h)⟩
theorem Rf.sc {K:PySem.W.Frag} {H0 G:Hp} {f:Bool} {v:V} {d:D} (h:zx d=true) (r:RdV K G v d):Rf K H0 G f v d:=⟨r,fun _=>Jg h r⟩
theorem Rf.no {K:PySem.W.Frag} {H0 G:Hp} {v:V} {d:D} (r:RdV K G v d):Rf K H0 G false v d:=⟨r,fun h=>by cases h⟩
theorem Rf.or {K:PySem.W.Frag} {H0 G:Hp} {f:Bool} {v:V} {d:D} (r:Rf K H0 G f v d):Rf K H0 G (f||zx d) v d:=⟨r.rd,fun h=>by
  cases f with
  | true=>exact r.nw rfl
  | false=>exact Jg (by simpa using h) r.rd⟩
theorem Rfs.nil {K:PySem.W.Frag} {H0 G:Hp} {f:Bool}:Rfs K H0 G f [] []:=⟨.nil,fun _=>.nil⟩
theorem Rfs.cons {K:PySem.W.Frag} {H0 G:Hp} {f g:Bool} {v:V} {d:D} {vs:List V} {ds:List D} (r:Rf K H0 G f v d) (rs:Rfs K H0 G g vs ds):Rfs K H0 G (f&&g) (v::vs) (d::ds):=⟨.cons r.rd rs.rd,fun h=>by
  rw [Bool.and_eq_true] at h;exact .cons (r.nw h.1) (rs.nw h.2)⟩
theorem zkf {K:PySem.W.Frag} {H0 H:Hp} {xs:List V} {ds:List D} {i:Nat} {x:V} {d:D} (r:RdNs K H0 H xs ds) (e:xs[i]?=some x) (e':ds[i]?=some d):RdN K H0 H x d:=by
  induction xs generalizing ds i with
  | nil=>simp at e
  | cons y xs ih=>
    cases r with
    | cons a b=>
      cases i with
      | zero=>cases e;cases e';exact a
      | succ i=>exact ih b (i:=i) (by simpa using e) (by simpa using e')
theorem Rfs.get {K:PySem.W.Frag} {H0 G:Hp} {f:Bool} {vs:List V} {ds:List D} {i:Nat} {d:D} (r:Rfs K H0 G f vs ds) (h:ds[i]?=some d):∃ v,vs[i]?=some v∧Rf K H0 G f v d:=by
  obtain⟨v,h1,h2⟩:=r.rd.get h;exact⟨v,h1,h2,fun hf=>zkf (r.nw hf) h1 h⟩
theorem zeK {K:PySem.W.Frag} {H0 G:Hp} {vs:List V} {ds:List D} (h:ds.all zx=true) (r:RdVs K G vs ds):RdNs K H0 G vs ds:=by
  induction vs generalizing ds with
  | nil=>cases r;exact .nil
  | cons v vs ih=>
    cases r with
    | cons a b=>
      rw [List.all_cons,Bool.and_eq_true] at h;exact .cons (Jg h.1 a) (ih h.2 b)
theorem Rfs.or {K:PySem.W.Frag} {H0 G:Hp} {f:Bool} {vs:List V} {ds:List D} (r:Rfs K H0 G f vs ds):Rfs K H0 G (f||ds.all zx) vs ds:=⟨r.rd,fun h=>by
  cases f with
  | true=>exact r.nw rfl
  | false=>exact zeK (by simpa using h) r.rd⟩
theorem Rfs.length {K:PySem.W.Frag} {H0 G:Hp} {f:Bool} {vs:List V} {ds:List D} (r:Rfs K H0 G f vs ds):vs.length=ds.length:=r.rd.length
theorem zfC {K:PySem.W.Frag} {H0 H:Hp} {xs ys:List V} {ds es:List D} (h:RdNs K H0 H xs ds) (h':RdNs K H0 H ys es):RdNs K H0 H (xs++ys) (ds++es):=by
  induction xs generalizing ds with
  | nil=>cases h;exact h'
  | cons x xs ih=>cases h with|cons a b=>exact .cons a (ih b)
theorem zkZ {K:PySem.W.Frag} {H0 H:Hp} {x:V} {d:D} (h:RdN K H0 H x d) {xs:List V} {ds:List D} (i:Nat) (r:RdNs K H0 H xs ds):RdNs K H0 H (xs.set i x) (ds.set i d):=by
  induction xs generalizing ds i with
  | nil=>cases r;exact .nil
  | cons y xs ih=>
    cases r with
    | cons a b=>
      cases i with
      | zero=>exact .cons h b
      | succ i=>exact .cons a (ih i b)
theorem zkd {K:PySem.W.Frag} {H0 H:Hp} {xs:List V} {ds:List D} (i:Nat) (r:RdNs K H0 H xs ds):RdNs K H0 H (xs.take i) (ds.take i):=by
  induction xs generalizing ds i with
  | nil=>cases r;rw [List.take_nil,List.take_nil];exact .nil
  | cons y xs ih=>
    cases r with
    | cons a b=>
      cases i with
      | zero=>exact .nil
      | succ i=>exact .cons a (ih i b)
theorem zmM {K:PySem.W.Frag} {H0 H:Hp} {xs:List V} {ds:List D} (i:Nat) (r:RdNs K H0 H xs ds):RdNs K H0 H (xs.drop i) (ds.drop i):=by
  induction xs generalizing ds i with
  | nil=>cases r;rw [List.drop_nil,List.drop_nil];exact .nil
  | cons y xs ih=>
    cases r with
    | cons a b=>
      cases i with
      | zero=>exact .cons a b
      | succ i=>exact ih i b
theorem zkc {K:PySem.W.Frag} {H0 H:Hp} {xs:List V} {ds:List D} (i:Nat) (r:RdNs K H0 H xs ds):RdNs K H0 H (xs.eraseIdx i) (ds.eraseIdx i):=by
  induction xs generalizing ds i with
  | nil=>cases r;exact .nil
  | cons y xs ih=>
    cases r with
    | cons a b=>
      cases i with
      | zero=>exact b
      | succ i=>exact .cons a (ih i b)
theorem Rfs.snoc {K:PySem.W.Frag} {H0 G:Hp} {f g:Bool} {v:V} {d:D} {vs:List V} {ds:List D} (rs:Rfs K H0 G g vs ds) (r:Rf K H0 G f v d):Rfs K H0 G (g&&f) (vs++[v]) (ds++[d]):=⟨rs.rd.append (.cons r.rd .nil),fun h=>by
  rw [Bool.and_eq_true] at h;exact zfC (rs.nw h.1) (.cons (r.nw h.2) .nil)⟩
theorem Rfs.append {K:PySem.W.Frag} {H0 G:Hp} {f g:Bool} {us:List V} {es:List D} {vs:List V} {ds:List D} (rs:Rfs K H0 G g vs ds) (r:Rfs K H0 G f us es):Rfs K H0 G (g&&f) (vs++us) (ds++es):=⟨rs.rd.append r.rd,fun h=>by
  rw [Bool.and_eq_true] at h;exact zfC (rs.nw h.1) (r.nw h.2)⟩
theorem Rfs.set {K:PySem.W.Frag} {H0 G:Hp} {f g:Bool} {v:V} {d:D} {vs:List V} {ds:List D} (rs:Rfs K H0 G g vs ds) (r:Rf K H0 G f v d) (i:Nat):Rfs K H0 G (g&&f) (vs.set i v) (ds.set i d):=⟨rs.rd.set r.rd i,fun h=>by
  rw [Bool.and_eq_true] at h;exact zkZ (r.nw h.2) i (rs.nw h.1)⟩
theorem Rfs.take {K:PySem.W.Frag} {H0 G:Hp} {g:Bool} {vs:List V} {ds:List D} (rs:Rfs K H0 G g vs ds) (i:Nat):Rfs K H0 G g (vs.take i) (ds.take i):=⟨rs.rd.take i,fun h=>zkd i (rs.nw h)⟩
theorem Rfs.drop {K:PySem.W.Frag} {H0 G:Hp} {g:Bool} {vs:List V} {ds:List D} (rs:Rfs K H0 G g vs ds) (i:Nat):Rfs K H0 G g (vs.drop i) (ds.drop i):=⟨rs.rd.drop i,fun h=>zmM i (rs.nw h)⟩
theorem Rfs.eraseIdx {K:PySem.W.Frag} {H0 G:Hp} {g:Bool} {vs:List V} {ds:List D} (rs:Rfs K H0 G g vs ds) (i:Nat):Rfs K H0 G g (vs.eraseIdx i) (ds.eraseIdx i):=⟨rs.rd.eraseIdx i,fun h=>zkc i (rs.nw h)⟩
def Fl.c:Fl→Option Cl
  | .sh d=>some (.sh (zx d) d)
  | .ow _ ds=>some (.ow (ds.all zx) ds)
  | .tp _ _ _=>none
structure Tp (K:PySem.W.Frag) (G H:Hp) (l:Addr) (qs:List (Addr×Addr)) (ms:List (D×List D)):Prop where
  top:H l=some (.lst (qs.map fun q=>V.ref q.1))
  topG:G l=none
  len:qs.length=ms.length
  item:∀ (k:Nat) (q:Addr×Addr) (m:D×List D),qs[k]?=some q→ms[k]?=some m→∃ n vs,H q.1=some (.lst [n,.ref q.2])∧G q.1=none∧RdV K G n m.1∧H q.2=some (.lst vs)∧G q.2=none∧RdVs K G vs m.2
inductive FlAt (K:PySem.W.Frag) (G H:Hp):V→Fl→Prop
  | sh {v d}:RdV K G v d→FlAt K G H v (.sh d)
  | ow {l vs ds}:H l=some (.lst vs)→RdVs K G vs ds→G l=none→FlAt K G H (.ref l) (.ow l ds)
  | tp {l qs ms}:Tp K G H l qs ms→FlAt K G H (.ref l) (.tp l qs ms)
structure ObAt (K:PySem.W.Frag) (G H:Hp) (o:Ob):Prop where
  top:∃ vs,H o.a=some (obO o.k vs)∧vs.length=6∧o.fs.length=6∧∀ (j:Nat) (fl:Fl),o.fs[j]?=some fl→∃ v,vs[j]?=some v∧FlAt K G H v fl
  topG:G o.a=none
  nd:o.as.Nodup
inductive Vw (K:PySem.W.Frag) (H0 G H:Hp):V→Cl→Prop
  | sh {v f d}:Rf K H0 G f v d→Vw K H0 G H v (.sh f d)
  | ow {l vs f ds}:H l=some (.lst vs)→Rfs K H0 G f vs ds→G l=none→Vw K H0 G H (.ref l) (.ow f ds)
  | ob {o}:ObAt K G H o→Vw K H0 G H (.ref o.a) (.ob o)
  | lo {a os}:H a=some (.lst (os.map fun o=>V.ref o.a))→G a=none→(∀ o∈os,ObAt K G H o)→(a::os.flatMap Ob.as).Nodup→Vw K H0 G H (.ref a) (.lo a os)
  | fo {a k vs ds}:G a=some (obO k vs)→vs.length=6→RdVs K G vs ds→Vw K H0 G H (.ref a) (.fo k ds)
  | bg {l}:H l=some (bagO l)→Vw K H0 G H (.ref l) .bg
def Cl.dat:Cl→Bool
  | .sh _ _=>true
  | .ow _ _=>true
  | .ob _=>false
  | .lo _ _=>false
  | .fo _ _=>false
  | .bg=>false
def Has:Cl→V→Addr→Prop
  | .ow _ _,v,a=>v=.ref a
  | .ob o,_,a=>a∈o.as
  | .lo b os,_,a=>a∈b::os.flatMap Ob.as
  | _,_,_=>False
def Mn (G H:Hp) (a:Addr):Prop:=(∃ o,H a=some o∧(∀ f,o≠.ext f)∧∀ xs,o≠.tup xs)∧G a=none
theorem Mn.lst {G H:Hp} {a:Addr} {vs:List V} (h:H a=some (.lst vs)) (g:G a=none):Mn G H a:=⟨⟨_,h,(fun f z=>by cases z),fun f z=>by cases z⟩,g⟩
theorem za1 {k:Option Addr} {vs:List V}:(∀ f,obO k vs≠.ext f)∧(∀ xs,obO k vs≠.tup xs)∧∀ xs,obO k vs≠.lst xs:=by
  cases k<;>exact⟨fun f z=>(by cases z),fun f z=>(by cases z),fun f z=>by cases z⟩
section
variable {K:PySem.W.Frag} {H0 G H G' H' H1:Hp}
theorem Tp.has {l:Addr} {qs:List (Addr×Addr)} {ms:List (D×List D)} (t:Tp K G H l qs ms) {a:Addr} (h:a∈tpA l qs):Mn G H a:=by
  rcases List.mem_cons.mp h with h|h
  · rw [h];exact Mn.lst t.top t.topG
  · obtain⟨q,hq,h⟩:=List.mem_flatMap.mp h
    obtain⟨k,hk,e⟩:=List.getElem_of_mem hq;have hk':k<ms.length:=by rw [←t.len];exact hk
    obtain⟨n,vs,h1,h2,_,h3,h4,_⟩:=t.item k q ms[k] (by rw [←e];exact List.getElem?_eq_getElem hk) (List.getElem?_eq_getElem hk')
    rcases List.mem_cons.mp h with h|h
    · rw [h];exact Mn.lst h1 h2
    · rw [List.mem_singleton.mp h];exact Mn.lst h3 h4
theorem FlAt.has {v:V} {fl:Fl} (w:FlAt K G H v fl) {a:Addr} (h:a∈fl.as):Mn G H a:=by
  cases w with
  | sh r=>cases h
  | ow e r n=>rw [List.mem_singleton.mp h];exact Mn.lst e n
  | tp t=>exact t.has h
theorem ObAt.has {o:Ob} (w:ObAt K G H o) {a:Addr} (h:a∈o.as):Mn G H a:=by
  obtain⟨vs,h1,h2,h3,h4⟩:=w.top
  rcases List.mem_cons.mp h with h|h
  · rw [h];exact⟨⟨_,h1,za1.1,za1.2.1⟩,w.topG⟩
  · obtain⟨fl,hf,h⟩:=List.mem_flatMap.mp h
    obtain⟨k,hk⟩:=List.getElem?_of_mem hf;obtain⟨v,_,w'⟩:=h4 k fl hk;exact w'.has h
theorem Vw.mn {v:V} {c:Cl} {a:Addr} (w:Vw K H0 G H v c) (h:Has c v a):Mn G H a:=by
  cases w with
  | sh r=>exact False.elim h
  | ow e r n=>cases h;exact Mn.lst e n
  | ob o=>exact o.has h
  | lo e n os _=>
    rcases List.mem_cons.mp h with h|h
    · rw [h];exact Mn.lst e n
    · obtain⟨o,ho,h⟩:=List.mem_flatMap.mp h
      exact(os o ho).has h
  | fo _ _ _=>exact False.elim h
  | bg _=>exact False.elim h
theorem Vw.has {v:V} {c:Cl} {a:Addr} (w:Vw K H0 G H v c) (h:Has c v a):(∃ o,H a=some o∧∀ f,o≠.ext f)∧G a=none:=by
  obtain⟨⟨o,h1,h2,_⟩,h3⟩:=w.mn h;exact⟨⟨o,h1,h2⟩,h3⟩
def Nw (G H0 H1:Hp):Prop:=∀ a o,G a=some o→H0 a=none→H1 a=none
theorem Rf.mv {f:Bool} {v:V} {d:D} (r:Rf K H0 G f v d) (g:Same G G') (n:Nw G H0 H1):Rf K H1 G' f v d:=⟨jx g r.rd,fun h=>j8 g n (r.nw h)⟩
theorem Rfs.mv {f:Bool} {v:List V} {d:List D} (r:Rfs K H0 G f v d) (g:Same G G') (n:Nw G H0 H1):Rfs K H1 G' f v d:=⟨rdvs_same g r.rd,fun h=>rdns_mono g n (r.nw h)⟩
theorem Tp.mv {l:Addr} {qs:List (Addr×Addr)} {ms:List (D×List D)} (t:Tp K G H l qs ms) (g:Same G G') (hh:∀ a∈tpA l qs,H' a=H a∧G' a=G a):Tp K G' H' l qs ms:=by
  obtain⟨h1,h2⟩:=hh l List.mem_cons_self;refine⟨h1.trans t.top,h2.trans t.topG,t.len,fun k q m hq hm=>?_⟩
  obtain⟨x,vs,q1,q2,q3,q4,q5,q6⟩:=t.item k q m hq hm;have mem:∀ b∈[q.1,q.2],b∈tpA l qs:=fun b hb=>List.mem_cons_of_mem _ (List.mem_flatMap.mpr ⟨q,List.mem_of_getElem? hq,hb⟩)
  obtain⟨a1,a2⟩:=hh q.1 (mem _ List.mem_cons_self);obtain⟨a3,a4⟩:=hh q.2 (mem _ (List.mem_cons_of_mem _ List.mem_cons_self));exact⟨x,vs,a1.trans q1,a2.trans q2,jx g q3,a3.trans q4,a4.trans q5,rdvs_same g q6⟩
theorem FlAt.mv {v:V} {fl:Fl} (w:FlAt K G H v fl) (g:Same G G') (hh:∀ a∈fl.as,H' a=H a∧G' a=G a):FlAt K G' H' v fl:=by
  cases w with
  | sh r=>exact .sh (jx g r)
  | ow e r m=>
    obtain⟨h1,h2⟩:=hh _ List.mem_cons_self;exact .ow (h1.trans e) (rdvs_same g r) (h2.trans m)
  | tp t=>exact .tp (t.mv g hh)
theorem ObAt.mv {o:Ob} (w:ObAt K G H o) (g:Same G G') (hh:∀ a∈o.as,H' a=H a∧G' a=G a):ObAt K G' H' o:=by
  obtain⟨vs,h1,h2,h3,h4⟩:=w.top;obtain⟨a1,a2⟩:=hh _ List.mem_cons_self;refine⟨⟨vs,a1.trans h1,h2,h3,fun j fl e=>?_⟩,a2.trans w.topG,w.nd⟩
  obtain⟨v,q1,q2⟩:=h4 j fl e;exact⟨v,q1,q2.mv g fun a h=>hh a (List.mem_cons_of_mem _ (List.mem_flatMap.mpr ⟨fl,List.mem_of_getElem? e,h⟩))⟩
theorem Vw.mv {v:V} {c:Cl} (w:Vw K H0 G H v c) (g:Same G G') (n:Nw G H0 H1) (hx:∀ a,H a=some (bagO a)→H' a=some (bagO a)) (hh:∀ a,Has c v a→H' a=H a∧G' a=G a):Vw K H1 G' H' v c:=by
  cases w with
  | sh r=>exact .sh (r.mv g n)
  | ow e r m=>
    obtain⟨h1,h2⟩:=hh _ rfl;exact .ow (h1.trans e) (r.mv g n) (h2.trans m)
  | ob o=>exact .ob (o.mv g hh)
  | lo e m os nd=>
    obtain⟨h1,h2⟩:=hh _ List.mem_cons_self;exact .lo (h1.trans e) (h2.trans m) (fun o ho=>(os o ho).mv g fun a h=>hh a (List.mem_cons_of_mem _ (List.mem_flatMap.mpr ⟨o,ho,h⟩))) nd
  | fo e m r=>exact .fo (g _ _ e) m (rdvs_same g r)
  | bg h=>exact .bg (hx _ h)
theorem Vw.turn {v:V} {c:Cl} (w:Vw K H0 G H v c) (g:Same G G') (hx:∀ a,H a=some (bagO a)→H' a=some (bagO a)) (hh:∀ a,Has c v a→H' a=H a∧G' a=G a):Vw K H0 G' H' v c:=w.mv g (fun _ _ _ n=>n) hx hh
theorem Vw.ntup {v:V} {c:Cl} {a:Addr} (w:Vw K H0 G H v c) (h:Has c v a):∀ xs,H a≠some (.tup xs):=fun xs z=>by
  obtain⟨⟨o,h1,_,h2⟩,_⟩:=w.mn h;rw [h1] at z;exact h2 xs (Option.some.inj z)
end
theorem Gr.hid {G H G' H':Hp} (g:Gr G H G' H') {l:Addr} {o:HO} (h:H l=some o) (n:G l=none) (hx:∀ f,o≠.ext f) (ht:∀ xs,H l≠some (.tup xs)):G' l=none:=by
  cases e:G' l with
  | none=>rfl
  | some o=>
    rcases g.new _ _ e with q|q|⟨xs,q⟩
    · rw [n] at q;cases q
    · rw [h] at q;cases q
    · have:=g.sub.s _ _ e
      rw [g.h.at h hx,q] at this;exact absurd (h.trans this) (ht xs)
theorem Vw.gr {K:PySem.W.Frag} {H0 G H G' H':Hp} {v:V} {c:Cl} (w:Vw K H0 G H v c) (g:Gr G H G' H'):Vw K H0 G' H' v c:=
  w.turn g.g (fun a e=>g.h.bag e) fun a h=>by
    obtain⟨⟨o,e,no⟩,n⟩:=w.has h;exact⟨(g.h.at e no).trans e.symm,(g.hid e n no (w.ntup h)).trans n.symm⟩
theorem zde {K:PySem.W.Frag} {H:Hp}:∀ {vs:List V} {ds:List D},vs.length=ds.length→(∀ (k:Nat) (v:V) (d:D),vs[k]?=some v→ds[k]?=some d→RdV K H v d)→RdVs K H vs ds
  | [],[],_,_=>.nil
  | [],_::_,h,_=>by cases h
  | _::_,[],h,_=>by cases h
  | v::vs,d::ds,h,q=>.cons (q 0 v d rfl rfl) (zde (Nat.succ.inj h) fun k a b x y=>q (k+1) a b (by simpa using x) (by simpa using y))
theorem Tp.rd {K:PySem.W.Frag} {G H:Hp} {l:Addr} {qs:List (Addr×Addr)} {ms:List (D×List D)} (t:Tp K G H l qs ms) (s:Sub G H):RdV K H (.ref l) (.list (tpD ms)):=by
  refine .lst (SqL.of t.top) (zde (by rw [List.length_map,tpD,List.length_map];exact t.len) fun k v d hv hd=>?_)
  rw [List.getElem?_map] at hv;unfold tpD at hd;rw [List.getElem?_map] at hd;cases e1:qs[k]? with
  | none=>rw [e1] at hv;cases hv
  | some q=>
    cases e2:ms[k]? with
    | none=>rw [e2] at hd;cases hd
    | some m=>
      rw [e1] at hv;rw [e2] at hd;cases hv;cases hd;obtain⟨n,vs,h1,h2,h3,h4,h5,h6⟩:=t.item k q m e1 e2;exact .lst (SqL.of h1) (.cons (jx s.s h3) (.cons (.lst (SqL.of h4) (rdvs_same s.s h6)) .nil))
theorem Vw.rd {K:PySem.W.Frag} {H0 G H:Hp} {v:V} {c:Cl} (w:Vw K H0 G H v c) (s:Sub G H) (hc:c.dat=true):RdV K H v c.d:=by
  cases w with
  | sh r=>exact jx s.s r.rd
  | ow h r n=>exact .lst (SqL.of h) (rdvs_same s.s r.rd)
  | _=>cases hc
inductive Vws (K:PySem.W.Frag) (H0 G H:Hp):List V→List Cl→Prop
  | nil:Vws K H0 G H [] []
  | cons {v c vs cs}:Vw K H0 G H v c→Vws K H0 G H vs cs→Vws K H0 G H (v::vs) (c::cs)
def shs:List Cl→Option (Bool×List D)
  | []=>some (true,[])
  | .sh f d::r=>(shs r).map fun p=>((f&&p.1),d::p.2)
  | .ow _ _::_=>none
  | .ob _::_=>none
  | .lo _ _::_=>none
  | .fo _ _::_=>none
  | .bg::_=>none
theorem Vws.shs {K:PySem.W.Frag} {H0 G H:Hp} {vs:List V} {cs:List Cl} {p:Bool×List D} (h:Vws K H0 G H vs cs) (e:shs cs=some p):Rfs K H0 G p.1 vs p.2:=by
  induction h generalizing p with
  | nil=>cases e;exact .nil
  | cons a b ih=>
    cases a with
    | sh r=>
      unfold L3.shs at e;rename_i cs' f d;cases q:L3.shs cs' with
      | none=>rw [q] at e;cases e
      | some ds=>rw [q] at e;cases e;exact .cons r (ih q)
    | _=>cases e
theorem Vws.rds {K:PySem.W.Frag} {H0 G H:Hp} (s:Sub G H) {vs:List V} {cs:List Cl} (h:Vws K H0 G H vs cs) (hd:cs.all Cl.dat=true):RdVs K H vs (cs.map Cl.d):=by
  induction h with
  | nil=>exact .nil
  | cons a b ih=>
    rw [List.all_cons,Bool.and_eq_true] at hd;exact .cons (a.rd s hd.1) (ih hd.2)
structure Fr3 (K:PySem.W.Frag) (H0 G0:Hp) (ρ : Env3) (σ : L2.St) (G H:Hp):Prop where
  keep:zt H0 H
  sub:Sub G H
  old:∀ b o,G b=some o→G0 b=some o∨H0 b=none∨∃ xs,o=.tup xs
  g0:Same G0 G
  slot:∀ (i:Nat) (c:Cl),ρ[i]?=some (some c)→∃ v,σ[i]?=some (some v)∧Vw K H0 G H v c
  mine:∀ (i:Nat) (c:Cl) (v:V) (a:Addr),ρ[i]?=some (some c)→σ[i]?=some (some v)→Has c v a→H0 a=none
  apart:∀ (i j:Nat) (c c':Cl) (v v':V) (a:Addr),ρ[i]?=some (some c)→ρ[j]?=some (some c')→σ[i]?=some (some v)→σ[j]?=some (some v')→Has c v a→Has c' v' a→i=j
  len:ρ.length = σ.length
section
variable {K:PySem.W.Frag} {H0 G0:Hp} {ρ : Env3} {σ : L2.St} {G H G' H':Hp}
theorem Fr3.gr (F:Fr3 K H0 G0 ρ σ G H) (g:Gr G H G' H'):Fr3 K H0 G0 ρ σ G' H' where
  keep:=F.keep.trans g.h
  sub:=g.sub
  old:=fun b o e=>by
    rcases g.new b o e with q|q|q
    · exact F.old b o q
    · exact .inr (.inl (F.keep.free q))
    · exact .inr (.inr q)
  g0:=F.g0.trans g.g
  slot:=fun i c e=>by
    obtain⟨v,h1,h2⟩:=F.slot i c e;exact⟨v,h1,h2.gr g⟩
  mine:=F.mine
  apart:=F.apart
  len:=F.len
theorem zO {α : Type} {l:List α} {i j:Nat} {x y:α} (h:(l.set i x)[j]?=some y):(i=j∧y=x∧i<l.length)∨(i≠j∧l[j]?=some y):=by
  by_cases e:i=j
  · subst e
    rw [List.getElem?_set_self'] at h;cases q:l[i]? with
    | none=>rw [q] at h;cases h
    | some z=>
      rw [q] at h;cases h;exact .inl ⟨rfl,rfl,(List.getElem?_eq_some_iff.mp q).1⟩
  · rw [List.getElem?_set_ne e] at h
    exact .inr ⟨e,h⟩
theorem Fr3.vw (F:Fr3 K H0 G0 ρ σ G H) {i:Nat} {c:Cl} {v:V} (h:ρ[i]?=some (some c)) (h':σ[i]?=some (some v)):Vw K H0 G H v c:=by
  obtain⟨u,h1,h2⟩:=F.slot i c h;rw [h'] at h1;cases h1;exact h2
theorem Fr3.put (F:Fr3 K H0 G0 ρ σ G H) {i:Nat} {v:V} {c:Cl} (s:zt H H') (w:Vw K H0 G H' v c) (hn:∀ a,Has c v a→H a=none):Fr3 K H0 G0 (ρ.set i (some c)) (σ.set i (some v)) G H':=by
  have F':=F.gr (G':=G) (H':=H') ⟨Same.refl _,s,F.sub.trans s,fun _ _ e=>.inl e⟩
  have ne:∀ (j:Nat) (c':Cl) (v':V) (a:Addr),ρ[j]?=some (some c')→σ[j]?=some (some v')→Has c' v' a→Has c v a→False:=fun j c' v' a e e' h h'=>by
    obtain⟨⟨o,q,_⟩,_⟩:=(F.vw e e').has h;rw [hn a h'] at q;cases q
  exact {
    keep:=F'.keep
    sub:=F'.sub
    old:=F'.old
    g0:=F'.g0
    slot:=fun j c' e=>by
      rcases zO e with ⟨rfl,q,hl⟩|⟨n,q⟩
      · cases q
        exact⟨v,by rw [List.getElem?_set_self (by rw [←F.len];exact hl)],w⟩
      · obtain⟨v',h1,h2⟩:=F'.slot j c' q
        exact⟨v',by rw [List.getElem?_set_ne n];exact h1,h2⟩
    mine:=fun j c' v' a e e' h=>by
      rcases zO e with ⟨rfl,q,hl⟩|⟨n,q⟩
      · cases q
        rw [List.getElem?_set_self (by rw [←F.len];exact hl)] at e'
        cases e';exact F.keep.free (hn a h)
      · rw [List.getElem?_set_ne n] at e'
        exact F.mine j c' v' a q e' h
    apart:=fun j k c1 c2 v1 v2 a e1 e2 e3 e4 h1 h2=>by
      rcases zO e1 with ⟨rfl,q,hl⟩|⟨n,q⟩
      · rcases zO e2 with ⟨rfl,q',hl'⟩|⟨n',q'⟩
        · rfl
        · cases q
          rw [List.getElem?_set_self (by rw [←F.len];exact hl)] at e3
          cases e3;rw [List.getElem?_set_ne n'] at e4
          exact(ne k c2 v2 a q' e4 h2 h1).elim
      · rcases zO e2 with ⟨rfl,q',hl'⟩|⟨n',q'⟩
        · cases q'
          rw [List.getElem?_set_self (by rw [←F.len];exact hl')] at e4
          cases e4;rw [List.getElem?_set_ne n] at e3
          exact(ne j c1 v1 a q e3 h1 h2).elim
        · rw [List.getElem?_set_ne n] at e3
          rw [List.getElem?_set_ne n'] at e4;exact F.apart j k c1 c2 v1 v2 a q q' e3 e4 h1 h2
    len:=by rw [List.length_set,List.length_set];exact F.len }
theorem Fr3.set (F:Fr3 K H0 G0 ρ σ G H) {i:Nat} {v:V} {f:Bool} {d:D} (r:Rf K H0 G f v d):Fr3 K H0 G0 (ρ.set i (some (.sh f d))) (σ.set i (some v)) G H:=F.put (zt.refl _) (.sh r) fun _ h=>False.elim h
theorem Fr3.drop (F:Fr3 K H0 G0 ρ σ G H) {i:Nat}:Fr3 K H0 G0 (ρ.set i none) σ G H where
  keep:=F.keep
  sub:=F.sub
  old:=F.old
  g0:=F.g0
  slot:=fun j c e=>by
    rcases zO e with ⟨rfl,q,hl⟩|⟨n,q⟩
    · cases q
    · exact F.slot j c q
  mine:=fun j c v a e e' h=>by
    rcases zO e with ⟨rfl,q,hl⟩|⟨n,q⟩
    · cases q
    · exact F.mine j c v a q e' h
  apart:=fun j k c1 c2 v1 v2 a e1 e2 e3 e4 h1 h2=>by
    rcases zO e1 with ⟨rfl,q,hl⟩|⟨n,q⟩
    · cases q
    · rcases zO e2 with ⟨rfl,q',hl⟩|⟨n',q'⟩
      · cases q'
      · exact F.apart j k c1 c2 v1 v2 a q q' e3 e4 h1 h2
  len:=by rw [List.length_set];exact F.len
theorem Fr3.own (F:Fr3 K H0 G0 ρ σ G H) {i:Nat} {l:Addr} {vs:List V} {f:Bool} {ds:List D} (r:Rfs K H0 G f vs ds) (hl:H l=none):Fr3 K H0 G0 (ρ.set i (some (.ow f ds))) (σ.set i (some (.ref l))) G (upd H l (.lst vs)):=
  F.put (z5 hl _).x (.ow zh r (F.sub.free hl)) fun a h=>by cases h;exact hl
def bar (H:Hp) (as:List Addr):Hp:=fun b=>if b∈as then none else H b
theorem zbr {H:Hp} {as:List Addr} {b:Addr} (h:b∈as):bar H as b=none:=if_pos h
theorem jF {H:Hp} {as:List Addr} {b:Addr} (h:b∉as):bar H as b=H b:=if_neg h
theorem zdj {H:Hp} {as:List Addr} {b:Addr} (h:bar H as b=none):b∈as∨H b=none:=by
  by_cases z:b∈as
  · exact .inl z
  · rw [jF z] at h;exact .inr h
theorem Fr3.led (F:Fr3 K H0 G0 ρ σ G H) {i:Nat} {c c':Cl} {v:V} {as:List Addr} (hi:ρ[i]?=some (some c)) (hv:σ[i]?=some (some v)) (ha:∀ a∈as,Has c v a) (g:Gr G (bar H as) G' H') (w:Vw K H0 G' H' v c') (hc:∀ a,Has c' v a→Has c v a∨H a=none):Fr3 K H0 G0 (ρ.set i (some c')) σ G' H':=by
  have mem:∀ a∈as,H0 a=none∧∃ o,H a=some o∧∀ f,o≠.ext f:=fun a h=>⟨F.mine i c v a hi hv (ha a h),((F.vw hi hv).has (ha a h)).1⟩
  have nx:∀ {a:Addr} {f:Heap→Prop},H a=some (.ext f)→a∉as:=fun {a f} e h=>by
    obtain⟨_,o,h1,h2⟩:=mem a h;rw [h1] at e;exact h2 f (Option.some.inj e)
  have kp:zt H0 H':=fun b o e=>by
    have nb:b∉as:=fun z=>by rw [(mem b z).1] at e;cases e
    rcases F.keep b o e with z|⟨z,n,c',h1,h2⟩
    · exact g.h b o ((jF nb).trans z)
    · exact .inr ⟨z,n,Lk.same ⟨c',(jF nb).trans h1,(jF (nx h2)).trans h2⟩ g.h⟩
  have oth:∀ (j:Nat) (c2:Cl) (v2:V) (a:Addr),i≠j→ρ[j]?=some (some c2)→σ[j]?=some (some v2)→Has c2 v2 a→¬Has c v a∧H a≠none:=fun j c2 v2 a n e e' h=>by
    refine⟨fun z=>n (F.apart i j c c2 v v2 a hi e hv e' z h),?_⟩
    obtain⟨⟨o,q,_⟩,_⟩:=(F.vw e e').has h;rw [q];intro z;cases z
  refine⟨kp,g.sub,fun b o e=>?_,F.g0.trans g.g,fun j c2 e=>?_,fun j c2 v2 a e e' h=>?_,fun j k c1 c2 v1 v2 a e1 e2 e3 e4 h1 h2=>?_,by rw [List.length_set];exact F.len⟩
  · rcases g.new b o e with q|q|q
    · exact F.old b o q
    · rcases zdj q with y|y
      · exact .inr (.inl (mem b y).1)
      · exact .inr (.inl (F.keep.free y))
    · exact .inr (.inr q)
  · rcases zO e with ⟨rfl,q,_⟩|⟨n,q⟩
    · cases q
      exact⟨v,hv,w⟩
    · obtain⟨v',h1,h2⟩:=F.slot j c2 q
      refine⟨v',h1,h2.turn g.g (fun a e=>g.h.bag ((jF (nx e)).trans e)) fun a h=>?_⟩
      have na:a∉as:=fun z=>(oth j c2 v' a n q h1 h).1 (ha a z)
      obtain⟨⟨o,ho,no⟩,hG⟩:=h2.has h;have hb:bar H as a=some o:=(jF na).trans ho;exact⟨(g.h.at hb no).trans ho.symm,(g.hid hb hG no fun xs z=>h2.ntup h xs ((jF na).symm.trans z)).trans hG.symm⟩
  · rcases zO e with ⟨rfl,q,_⟩|⟨n,q⟩
    · cases q
      rw [hv] at e';cases e'
      rcases hc a h with h|h
      · exact F.mine i c v a hi hv h
      · exact F.keep.free h
    · exact F.mine j c2 v2 a q e' h
  · have one:∀ (k:Nat) (c2:Cl) (v2:V),i≠k→ρ[k]?=some (some c2)→σ[k]?=some (some v2)→Has c2 v2 a→Has c' v a→False:=fun k c2 v2 n q e h h'=>by
      obtain⟨x,y⟩:=oth k c2 v2 a n q e h;exact(hc a h').elim x y
    rcases zO e1 with ⟨rfl,q,_⟩|⟨n,q⟩
    · rcases zO e2 with ⟨rfl,q',_⟩|⟨n',q'⟩
      · rfl
      · cases q
        rw [hv] at e3;cases e3;exact(one k c2 v2 n' q' e4 h2 h1).elim
    · rcases zO e2 with ⟨rfl,q',_⟩|⟨n',q'⟩
      · cases q'
        rw [hv] at e4;cases e4;exact(one j c1 v1 n q e3 h1 h2).elim
      · exact F.apart j k c1 c2 v1 v2 a q q' e3 e4 h1 h2
theorem Gr.chg {l:Addr} {o:HO} (s:Sub G H) (hG:G l=none):Gr G (bar H [l]) G (upd H l o):=by
  refine⟨Same.refl _,fun b u e=>?_,⟨fun b u e=>by rw [zd (zG e hG)];exact s.s b u e,s.cl⟩,fun _ _ e=>.inl e⟩
  by_cases hb:b∈[l]
  · rw [zbr hb] at e;cases e
  · rw [jF hb] at e
    exact .inl (by rw [zd (fun z=>hb (by rw [z];exact List.mem_cons_self))];exact e)
theorem Fr3.chg (F:Fr3 K H0 G0 ρ σ G H) {i:Nat} {l:Addr} {o:HO} {c c':Cl} {v:V} (hi:ρ[i]?=some (some c)) (hv:σ[i]?=some (some v)) (hl:Has c v l) (hc:∀ a,Has c' v a→Has c v a) (w:Vw K H0 G (upd H l o) v c'):Fr3 K H0 G0 (ρ.set i (some c')) σ G (upd H l o):=
  F.led (as:=[l]) hi hv (fun a h=>by rw [List.mem_singleton.mp h];exact hl) (Gr.chg F.sub ((F.vw hi hv).has hl).2) w fun a h=>.inl (hc a h)
theorem Fr3.change (F:Fr3 K H0 G0 ρ σ G H) {i:Nat} {l:Addr} {vs:List V} {f f':Bool} {ds es:List D} (hi:ρ[i]?=some (some (.ow f ds))) (hl:σ[i]?=some (some (.ref l))) (r:Rfs K H0 G f' vs es):Fr3 K H0 G0 (ρ.set i (some (.ow f' es))) σ G (upd H l (.lst vs)):=
  F.chg hi hl rfl (fun _ h=>h) (.ow zh r ((F.vw hi hl).has rfl).2)
theorem Fr3.still (F:Fr3 K H0 G0 ρ σ G H) {i:Nat} {c:Cl} {v:V} {f:Bool} {d:D} (hi:ρ[i]?=some (some c)) (hv:σ[i]?=some (some v)) (r:∀ G',Same G G'→(∀ a,Has c v a→G' a=H a∧H0 a=none)→Rf K H0 G' f v d):∃ G',Same G G'∧Fr3 K H0 G0 (ρ.set i (some (.sh f d))) σ G' H:=by
  have hd:∀ b,Decidable (Has c v b):=fun b=>Classical.propDecidable _
  have w:=F.vw hi hv;have e1:∀ b,Has c v b→(fun b=>if Has c v b then H b else G b) b=H b:=fun b h=>if_pos h
  have e2:∀ b,¬Has c v b→(fun b=>if Has c v b then H b else G b) b=G b:=fun b h=>if_neg h
  generalize (fun b=>if Has c v b then H b else G b)=G' at e1 e2
  have gg:Same G G':=fun b o e=>by
    rw [e2 b (fun h=>by rw [(w.has h).2] at e;cases e)];exact e
  refine⟨G',gg,F.keep,⟨fun b o e=>?_,fun b f e=>?_⟩,fun b o e=>?_,F.g0.trans gg,fun j c2 e=>?_,fun j c2 v2 a e e' h=>?_,fun j k c1 c2 v1 v2 a q1 q2 q3 q4 h1 h2=>?_,by rw [List.length_set];exact F.len⟩
  · by_cases h:Has c v b
    · rw [e1 b h] at e;exact e
    · rw [e2 b h] at e;exact F.sub.s b o e
  · by_cases h:Has c v b
    · rw [e1 b h] at e
      obtain⟨⟨u,hu,hn⟩,_⟩:=w.has h;rw [hu] at e;exact hn f (Option.some.inj e)
    · rw [e2 b h] at e;exact F.sub.cl b f e
  · by_cases h:Has c v b
    · exact .inr (.inl (F.mine i c v b hi hv h))
    · rw [e2 b h] at e;exact F.old b o e
  · rcases zO e with ⟨rfl,q,_⟩|⟨n,q⟩
    · cases q
      exact⟨v,hv,.sh (r G' gg fun a h=>⟨e1 a h,F.mine i c v a hi hv h⟩)⟩
    · obtain⟨v',h1,h2⟩:=F.slot j c2 q
      exact⟨v',h1,h2.turn gg (fun _ e=>e) fun a h=>⟨rfl,e2 a fun h'=>n (F.apart i j c c2 v v' a hi q hv h1 h' h)⟩⟩
  · rcases zO e with ⟨rfl,q,_⟩|⟨n,q⟩
    · cases q;exact False.elim h
    · exact F.mine j c2 v2 a q e' h
  · rcases zO q1 with ⟨rfl,q,_⟩|⟨n,q⟩
    · cases q;exact False.elim h1
    · rcases zO q2 with ⟨rfl,q',_⟩|⟨n',q'⟩
      · cases q';exact False.elim h2
      · exact F.apart j k c1 c2 v1 v2 a q q' q3 q4 h1 h2
theorem Fr3.freeze (F:Fr3 K H0 G0 ρ σ G H) {i:Nat} {f:Bool} {ds:List D} (hi:ρ[i]?=some (some (.ow f ds))):∃ G',Same G G'∧Fr3 K H0 G0 (ρ.set i (some (.sh f (.list ds)))) σ G' H:=by
  obtain⟨v,hv,w⟩:=F.slot i _ hi;refine F.still hi hv fun G' gg q=>?_
  cases w with
  | ow h r n=>
    obtain⟨q1,q2⟩:=q _ rfl;rw [h] at q1;exact⟨.lst (SqL.of q1) (rdvs_same gg r.rd),fun hf=>.lst q1 q2 (rdns_mono gg (fun _ _ _ z=>z) (r.nw hf))⟩
theorem Fr3.rebase (F:Fr3 K H0 G0 ρ σ G H):Fr3 K H0 G ρ σ G H:=⟨F.keep,F.sub,fun _ _ e=>.inl e,Same.refl _,F.slot,F.mine,F.apart,F.len⟩
theorem Fr3.back {ρ1:Env3} {σ1:L2.St} {G1 H1:Hp} (F:Fr3 K H0 G1 ρ σ G H) (B:Fr3 K H0 G0 ρ1 σ1 G1 H1):Fr3 K H0 G0 ρ σ G H:=
  ⟨F.keep,F.sub,fun b o e=>(F.old b o e).elim (fun q=>B.old b o q) .inr,B.g0.trans F.g0,F.slot,F.mine,F.apart,F.len⟩
theorem Fr3.gr0 (F:Fr3 K H0 G0 ρ σ G H):Gr G0 H0 G H:=⟨F.g0,F.keep,F.sub,F.old⟩
theorem Gr.back {ρ1:Env3} {σ1:L2.St} {G1 H1:Hp} (g:Gr G1 H0 G H) (B:Fr3 K H0 G0 ρ1 σ1 G1 H1):Gr G0 H0 G H:=
  ⟨B.g0.trans g.g,g.h,g.sub,fun b o e=>(g.new b o e).elim (fun q=>B.old b o q) .inr⟩
end
variable [LamW]
theorem el5 {α β γ : Type} {P R:α→β→γ→Prop} {C:Prop} (f:∀ a b c,P a b c→R a b c→C) (h:∃ a b c,P a b c∧R a b c):C:=by
  obtain⟨a,b,c,x,y⟩:=h;exact f a b c x y
theorem el7 {α β γ δ : Type} {P R S:α→β→γ→δ→Prop} {C:Prop} (f:∀ a b c d,P a b c d→R a b c d→S a b c d→C) (h:∃ a b c d,P a b c d∧R a b c d∧S a b c d):C:=by
  obtain⟨a,b,c,d,x,y,z⟩:=h;exact f a b c d x y z
theorem el2 {α β : Type} {P R S:α→β→Prop} {C:Prop} (f:∀ a b,P a b→R a b→S a b→C) (h:∃ a b,P a b∧R a b∧S a b):C:=by
  obtain⟨a,b,x,y,z⟩:=h;exact f a b x y z
theorem el3 {α β γ : Type} {P R S T:α→β→γ→Prop} {C:Prop} (f:∀ a b c,P a b c→R a b c→S a b c→T a b c→C) (h:∃ a b c,P a b c∧R a b c∧S a b c∧T a b c):C:=by
  obtain⟨a,b,c,x,y,z,w⟩:=h;exact f a b c x y z w
abbrev TE3:=Env3→(Cl→Prop)→Prop
abbrev TT3:=Env3→(Bool→Prop)→Prop
abbrev TA3:=Env3→(List Cl→Prop)→Prop
abbrev TN3:=Env3→(Bool→List D→Prop)→Prop
structure Ends3 where
  nx:Env3→Prop
  rt:Bool→D→Prop
  bk:Env3→Prop:=fun _=>False
  ct:Env3→Prop:=fun _=>False
  rm:Cl→Env3→Prop:=fun _ _=>False
abbrev TS3:=Ends3→Env3→Prop
def jk (K:PySem.W.Frag) (H0:Hp) (t:TE3):TE:=fun σ H Q=>∃ G0 ρ G,Fr3 K H0 G0 ρ σ G H∧t ρ fun c=>∀ v G' H',Gr G H G' H'→Vw K H0 G' H' v c→Q v H'
def zab (K:PySem.W.Frag) (H0:Hp) (t:TN3):TE:=fun σ H Q=>∃ G0 ρ G,Fr3 K H0 G0 ρ σ G H∧t ρ fun f ds=>∀ l vs G' H',Gr G H G' H'→H' l=none→Rfs K H0 G' f vs ds→Q (.ref l) (upd H' l (.lst vs))
def Jq (K:PySem.W.Frag) (H0:Hp) (t:TT3):TT:=fun σ H Q=>∃ G0 ρ G,Fr3 K H0 G0 ρ σ G H∧t ρ fun b=>∀ G' H',Gr G H G' H'→Q b H'
def zkW (K:PySem.W.Frag) (H0:Hp) (t:TA3):TA:=fun σ H Q=>∃ G0 ρ G,Fr3 K H0 G0 ρ σ G H∧t ρ fun cs=>∀ vs G' H',Gr G H G' H'→Vws K H0 G' H' vs cs→Q vs H'
structure LD (K:PySem.W.Frag) (H0 G0:Hp) (A:Ends3) (B:Ends):Prop where
  nx:∀ ρ σ G H,Fr3 K H0 G0 ρ σ G H→A.nx ρ→B.nx σ H
  rt:∀ f d v G H,Gr G0 H0 G H→Rf K H0 G f v d→A.rt f d→B.rt v H
  bk:∀ ρ σ G H,Fr3 K H0 G0 ρ σ G H→A.bk ρ→B.bk σ H
  ct:∀ ρ σ G H,Fr3 K H0 G0 ρ σ G H→A.ct ρ→B.ct σ H
  rm:∀ c v ρ σ G H,Fr3 K H0 G0 ρ σ G H→Vw K H0 G H v c→(∀ a,Has c v a→H0 a=none∧∀ (j:Nat) (c':Cl) (v':V),ρ[j]?=some (some c')→σ[j]?=some (some v')→¬Has c' v' a)→A.rm c ρ→B.rt v H
def zew (K:PySem.W.Frag) (H0:Hp) (t:TS3):TS:=fun B σ H=>∃ G0 A ρ G,Fr3 K H0 G0 ρ σ G H∧t A ρ∧LD K H0 G0 A B
structure PE3 (X:Cx) (H0:Hp) (e:Expr) (t:TE3):Prop where
  mono:∀ ρ (Q Q':Cl→Prop),(∀ c,Q c→Q' c)→t ρ Q→t ρ Q'
  ok:PE X e (jk X.K H0 t)
structure PN3 (X:Cx) (H0:Hp) (e:Expr) (t:TN3):Prop where
  mono:∀ ρ (Q Q':Bool→List D→Prop),(∀ f c,Q f c→Q' f c)→t ρ Q→t ρ Q'
  ok:PE X e (zab X.K H0 t)
structure PT3 (X:Cx) (H0:Hp) (e:Expr) (t:TT3):Prop where
  mono:∀ ρ (Q Q':Bool→Prop),(∀ c,Q c→Q' c)→t ρ Q→t ρ Q'
  ok:PT X e (Jq X.K H0 t)
structure PW3 (X:Cx) (H0:Hp) (e:Expr) (t:TT3):Prop where
  mono:∀ ρ (Q Q':Bool→Prop),(∀ c,Q c→Q' c)→t ρ Q→t ρ Q'
  ok:PW X e (Jq X.K H0 t)
structure PA3 (X:Cx) (H0:Hp) (es:List Expr) (t:TA3):Prop where
  mono:∀ ρ (Q Q':List Cl→Prop),(∀ c,Q c→Q' c)→t ρ Q→t ρ Q'
  ok:PA X es (zkW X.K H0 t)
def PS3 (X:Cx) (H0:Hp) (st:Stmt) (t:TS3):Prop:=PS X st (zew X.K H0 t)
def PSs3 (X:Cx) (H0:Hp) (st:List Stmt) (t:TS3):Prop:=PSs X st (zew X.K H0 t)
theorem PE.imp {X:Cx} {e:Expr} {t t':TE} (h:PE X e t) (i:∀ σ H Q,t' σ H Q→t σ H Q):PE X e t':=fun pins s σ H Q I q=>h pins s σ H Q I (i _ _ _ q)
theorem PT.imp {X:Cx} {e:Expr} {t t':TT} (h:PT X e t) (i:∀ σ H Q,t' σ H Q→t σ H Q):PT X e t':=fun pins s σ H Q I q=>h pins s σ H Q I (i _ _ _ q)
theorem PW.imp {X:Cx} {e:Expr} {t t':TT} (h:PW X e t) (i:∀ σ H Q,t' σ H Q→t σ H Q):PW X e t':=fun wh pins s σ H Q I q=>h wh pins s σ H Q I (i _ _ _ q)
theorem PA.imp {X:Cx} {e:List Expr} {t t':TA} (h:PA X e t) (i:∀ σ H Q,t' σ H Q→t σ H Q):PA X e t':=fun pos pins s σ H Q I q=>h pos pins s σ H Q I (i _ _ _ q)
theorem PS.imp {X:Cx} {e:Stmt} {t t':TS} (h:PS X e t) (i:∀ B σ H,t' B σ H→t B σ H):PS X e t':=fun pins s σ H B I q=>h pins s σ H B I (i _ _ _ q)
theorem PSs.imp {X:Cx} {e:List Stmt} {t t':TS} (h:PSs X e t) (i:∀ B σ H,t' B σ H→t B σ H):PSs X e t':=fun pins s σ H B I q=>h pins s σ H B I (i _ _ _ q)
section
variable {X:Cx} {H0:Hp} {e a b c:Expr} {pos:Pos}
def atV (o:Option (Option Cl)) (P:Cl→Prop):Prop:=match o with
  | some (some c)=>P c
  | _=>False
theorem zhk {o:Option (Option Cl)} {P:Cl→Prop} (h:atV o P):∃ c,o=some (some c)∧P c:=by
  cases o with
  | none=>exact False.elim h
  | some x => cases x with
    | none=>exact False.elim h
    | some c=>exact⟨c,rfl,h⟩
def asS (c:Cl) (P:Bool→D→Prop):Prop:=match c with
  | .sh f d=>P f d
  | _=>False
theorem jS {c:Cl} {P:Bool→D→Prop} (h:asS c P):∃ f d,c=.sh f d∧P f d:=by
  cases c with
  | sh f d=>exact⟨f,d,rfl,h⟩
  | _=>exact False.elim h
def asD (d:D) (P:Bool→Prop):Prop:=match d with
  | .bool k=>P k
  | _=>False
def asB (c:Cl) (P:Bool→Prop):Prop:=match c with
  | .sh true d=>asD d P
  | _=>False
theorem zfB {c:Cl} {P:Bool→Prop} (h:asB c P):∃ k,c=.sh true (.bool k)∧P k:=by
  cases c with
  | sh f d => cases f with
    | true => cases d with
      | bool k=>exact⟨k,rfl,h⟩
      | _=>exact False.elim h
    | false=>exact False.elim h
  | _=>exact False.elim h
def optP {α : Type} (o:Option α) (P:α→Prop):Prop:=match o with
  | some a=>P a
  | none=>False
theorem z8 {α : Type} {o:Option α} {P:α→Prop} (h:optP o P):∃ a,o=some a∧P a:=by
  cases o with
  | none=>exact False.elim h
  | some a=>exact⟨a,rfl,h⟩
def asT (d:D) (P:List D→Prop):Prop:=match d with
  | .tuple ds=>P ds
  | _=>False
theorem zfE {d:D} {P:List D→Prop} (h:asT d P):∃ ds,d=.tuple ds∧P ds:=by
  cases d with
  | tuple ds=>exact⟨ds,rfl,h⟩
  | _=>exact False.elim h
def asLd (d:D) (P:List D→Prop):Prop:=match d with
  | .list ds=>P ds
  | _=>False
def asL (c:Cl) (P:Bool→List D→Prop):Prop:=match c with
  | .sh f d=>asLd d (P f)
  | _=>False
theorem ze7 {c:Cl} {P:Bool→List D→Prop} (h:asL c P):∃ f ds,c=.sh f (.list ds)∧P f ds:=by
  cases c with
  | sh f d => cases d with
    | list ds=>exact⟨f,ds,rfl,h⟩
    | _=>exact False.elim h
  | _=>exact False.elim h
def atO (o:Option (Option Cl)) (P:Bool→List D→Prop):Prop:=match o with
  | some (some (.ow f ds))=>P f ds
  | _=>False
theorem zfG {o:Option (Option Cl)} {P:Bool→List D→Prop} (h:atO o P):∃ f ds,o=some (some (.ow f ds))∧P f ds:=by
  cases o with
  | none=>exact False.elim h
  | some x => cases x with
    | none=>exact False.elim h
    | some c => cases c with
      | ow f ds=>exact⟨f,ds,rfl,h⟩
      | _=>exact False.elim h
def J5 {α : Type} (l:List α) (P:α→List α→Prop):Prop:=match l with
  | d::r=>P d r
  | []=>False
theorem zg1 {α : Type} {l:List α} {P:α→List α→Prop} (h:J5 l P):∃ d r,l=d::r∧P d r:=by
  cases l with
  | nil=>exact False.elim h
  | cons d r=>exact⟨d,r,rfl,h⟩
def nilP {α : Type} (l:List α) (P:Prop):Prop:=match l with
  | []=>P
  | _::_=>False
theorem zho {α : Type} {l:List α} {P:Prop} (h:nilP l P):l=[]∧P:=by
  cases l with
  | nil=>exact⟨rfl,h⟩
  | cons d r=>exact False.elim h
def asId (d:D) (P:Int→Prop):Prop:=match d with
  | .int i=>P i
  | _=>False
def asI (c:Cl) (P:Int→Prop):Prop:=match c with
  | .sh true d=>asId d P
  | _=>False
theorem jJ {c:Cl} {P:Int→Prop} (h:asI c P):∃ k,c=.sh true (.int k)∧P k:=by
  cases c with
  | sh f d => cases f with
    | true => cases d with
      | int k=>exact⟨k,rfl,h⟩
      | _=>exact False.elim h
    | false=>exact False.elim h
  | _=>exact False.elim h
def v3 (i:Nat):TE3:=fun ρ Q=>atV ρ[i]? Q
def k3 (d:D):TE3:=fun _ Q=>Q (.sh true d)
theorem n3 (i:Nat) {x:Str} (hN:X.N[i]?=some x:=by rfl) (hv:Vis X.env.scope x:=by first|exact Or.inl rfl|exact Or.inr (Or.inl rfl)|exact Or.inr (Or.inr rfl)) (hd:(x==("__debug__" : Str))=false:=by decide) (hcd:(x==("__classdict__" : Str))=false:=by decide) :
    PE3 X H0 (.Name x pos) (v3 i):=by
  refine⟨fun ρ Q Q' h q=>?_,PE.imp (z6 hN hv hd hcd) fun σ H Q=>el5 fun G0 ρ G F q=>?_⟩
  · obtain⟨c,e,q⟩:=zhk q
    show atV ρ[i]? Q'
    rw [e];exact h c q
  obtain⟨c,e,q⟩:=zhk q;obtain⟨v,h1,h2⟩:=F.slot i c e;exact⟨v,h1,q v G H (Gr.refl F.sub) h2⟩
theorem zaQ {v:V} {d:D} (h:PE X e (tC v)) (r:∀ G,RdV X.K G v d) (hs:zx d=true):PE3 X H0 e (k3 d):=
  ⟨fun ρ Q Q' h q=>h _ q,PE.imp h fun σ H Q=>el5 fun G0 ρ G F q=>q v G H (Gr.refl F.sub) (.sh (.sc hs (r G)))⟩
theorem i3 {i j pos}:PE3 X H0 (.Constant (.int i) j pos) (k3 (.int i)):=zaQ zaD (fun _=>.int i) rfl
theorem b3 {i j pos}:PE3 X H0 (.Constant (.bool i) j pos) (k3 (.bool i)):=zaQ zhX (fun _=>.bl i) rfl
theorem non3 {j pos}:PE3 X H0 (.Constant .none j pos) (k3 .none):=zaQ zdz (fun _=>.non) rfl
theorem s3 {i j pos}:PE3 X H0 (.Constant (.str i) j pos) (k3 (.str i)):=zaQ ZK (fun _=>.str i) rfl
theorem g3 {x:Str} {v:V} {u:Value} {d:D} (hg:Gl X x) (hm:X.mg x=some u) (r:RelV v u) (rd:∀ G,RdV X.K G v d) (hs:zx d=true) (hd:(x==("__debug__" : Str))=false:=by decide):PE3 X H0 (.Name x pos) (k3 d):=zaQ (zfV hg hm r hd) rd hs
def nw3 (t:TN3):TE3:=fun ρ Q=>t ρ fun f ds=>Q (.sh f (.list ds))
theorem new3 {t:TN3} (h:PN3 X H0 e t):PE3 X H0 e (nw3 t):=
  ⟨fun ρ Q Q' hq q=>h.mono ρ _ _ (fun f ds=>hq _) q,PE.imp h.ok fun σ H Q=>el5 fun G0 ρ G F q=>⟨G0,ρ,G,F,h.mono ρ _ _ (fun f ds k l vs G' H' g hl r=>
    k (.ref l) (upd G' l (.lst vs)) (upd H' l (.lst vs)) (g.trans (Gr.put g.sub hl)) (.sh ⟨.lst (SqL.of zh) (rdvs_same (z5 (g.sub.free hl) _) r.rd),fun hf=>.lst zh ((F.keep.trans g.h).free hl) (rdns_mono (z5 (g.sub.free hl) _) (fun _ _ _ z=>z) (r.nw hf))⟩)) q⟩⟩
abbrev R3:=Cl→Cl→(Bool→D→Prop)→Prop
def zbl (K:PySem.W.Frag) (H0:Hp) (r:R3):R2:=fun x y H Q=>∃ G a b,Sub G H∧Vw K H0 G H x a∧Vw K H0 G H y b∧r a b fun f d=>∀ v G' H',Gr G H G' H'→Rf K H0 G' f v d→Q v H'
structure OpOk (X:Cx) (f:Value→Value→Sem Value) (r:R3):Prop where
  mono:∀ a b (Q Q':Bool→D→Prop),(∀ f c,Q f c→Q' f c)→r a b Q→r a b Q'
  ok:∀ H0,OpR X f (zbl X.K H0 r)
theorem OpR.imp {f:Value→Value→Sem Value} {r r':R2} (h:OpR X f r) (i:∀ x y H Q,r' x y H Q→r x y H Q):OpR X f r':=fun pins s σ H x y v u Q I rx ry q=>h pins s σ H x y v u Q I rx ry (i _ _ _ _ q)
def o3 (r:R3) (ta tb:TE3):TE3:=fun ρ Q=>ta ρ fun a=>tb ρ fun b=>r a b fun f d=>Q (.sh f d)
theorem za3 {r:R3} {ta tb:TE3} (hr:∀ a b (Q Q':Bool→D→Prop),(∀ f c,Q f c→Q' f c)→r a b Q→r a b Q') (ha:∀ ρ (Q Q':Cl→Prop),(∀ c,Q c→Q' c)→ta ρ Q→ta ρ Q') (hb:∀ ρ (Q Q':Cl→Prop),(∀ c,Q c→Q' c)→tb ρ Q→tb ρ Q') :
    ∀ ρ (Q Q':Cl→Prop),(∀ c,Q c→Q' c)→o3 r ta tb ρ Q→o3 r ta tb ρ Q':=fun ρ Q Q' h q=>ha ρ _ _ (fun a=>hb ρ _ _ fun b=>hr a b _ _ fun f d=>h _) q
theorem zbA {r:R3} {ta tb:TE3} (hr:∀ a b (Q Q':Bool→D→Prop),(∀ f c,Q f c→Q' f c)→r a b Q→r a b Q') (ha:∀ ρ (Q Q':Cl→Prop),(∀ c,Q c→Q' c)→ta ρ Q→ta ρ Q') (hb:∀ ρ (Q Q':Cl→Prop),(∀ c,Q c→Q' c)→tb ρ Q→tb ρ Q') {K:PySem.W.Frag} :
    ∀ σ H Q,jk K H0 (o3 r ta tb) σ H Q→tOp (zbl K H0 r) (jk K H0 ta) (jk K H0 tb) σ H Q:=fun σ H Q=>el5 fun G0 ρ G F q=>
  ⟨G0,ρ,G,F,ha ρ _ _ (fun a qa v1 G1 H1 g1 w1=>⟨G0,ρ,G1,F.gr g1,hb ρ _ _ (fun b qb v2 G2 H2 g2 w2=>⟨G2,a,b,g2.sub,w1.gr g2,w2,hr a b _ _ (fun f d k v G' H' g r=>k v G' H' ((g1.trans g2).trans g) (.sh r)) qb⟩) qa⟩) q⟩
theorem op3 {op:Operator} {r:R3} {ta tb:TE3} (ho:OpOk X (binaryOp op) r) (ha:PE3 X H0 a ta) (hb:PE3 X H0 b tb):PE3 X H0 (.BinOp a op b pos) (o3 r ta tb):=
  ⟨za3 ho.mono ha.mono hb.mono,PE.imp (zdg (ho.ok H0) ha.ok hb.ok) (zbA ho.mono ha.mono hb.mono)⟩
theorem cmp3 {op:CmpOp} {r:R3} {ta tb:TE3} (ho:OpOk X (compareOp op) r) (ha:PE3 X H0 a ta) (hb:PE3 X H0 b tb) (hm:behindInMarks op b=false):PE3 X H0 (.Compare a [op] [b] pos) (o3 r ta tb):=
  ⟨za3 ho.mono ha.mono hb.mono,PE.imp (zmH (ho.ok H0) ha.ok hb.ok hm) (zbA ho.mono ha.mono hb.mono)⟩
def tt3 (t:TE3):TT3:=fun ρ Q=>t ρ fun c=>asB c Q
theorem zdT {K:PySem.W.Frag} {H0 G H:Hp} {v:V} {f k:Bool} (w:Vw K H0 G H v (.sh f (.bool k))):v=.bl k:=by
  cases w with
  | sh r=>cases r.rd;rfl
theorem zc4 {t:TE3} {K:PySem.W.Frag} (ht:∀ ρ (Q Q':Cl→Prop),(∀ c,Q c→Q' c)→t ρ Q→t ρ Q'):∀ σ H Q,Jq K H0 (tt3 t) σ H Q→za0 (jk K H0 t) σ H Q:=fun σ H Q=>el5 fun G0 ρ G F q=>
  ⟨G0,ρ,G,F,ht ρ _ _ (fun c q v G' H' g w=>by obtain⟨k,e,q⟩:=zfB q;subst e;exact⟨k,zdT w,q G' H' g⟩) q⟩
theorem zbK {t:TE3} (ht:∀ ρ (Q Q':Cl→Prop),(∀ c,Q c→Q' c)→t ρ Q→t ρ Q'):∀ ρ (Q Q':Bool→Prop),(∀ c,Q c→Q' c)→tt3 t ρ Q→tt3 t ρ Q':=fun ρ Q Q' h q=>ht ρ _ _ (fun c q=>by obtain⟨k,e,q⟩:=zfB q;subst e;exact h k q) q
theorem zgf {t t':TE} (h:∀ σ H Q,t' σ H Q→t σ H Q):∀ σ H Q,za0 t' σ H Q→za0 t σ H Q:=fun σ H Q q=>h _ _ _ q
theorem zj {op:CmpOp} {r:R3} {ta tb:TE3} (ho:OpOk X (compareOp op) r) (ha:PE3 X H0 a ta) (hb:PE3 X H0 b tb) (hm:behindInMarks op b=false):PT3 X H0 (.Compare a [op] [b] pos) (tt3 (o3 r ta tb)):=
  ⟨zbK (za3 ho.mono ha.mono hb.mono),PT.imp (zm9 (ho.ok H0) ha.ok hb.ok hm) fun σ H Q q=>zgf (zbA ho.mono ha.mono hb.mono) σ H Q (zc4 (za3 ho.mono ha.mono hb.mono) σ H Q q)⟩
def ch3 (r r':R3) (ta tb tc:TE3):TE3:=fun ρ Q=>ta ρ fun x=>tb ρ fun y=>r x y fun _ z=>∃ k,z=.bool k∧if k=true then tc ρ fun w=>r' y w fun f d=>Q (.sh f d) else Q (.sh true (.bool false))
theorem zb3 {K:PySem.W.Frag} {G:Hp} {v:V} {k:Bool} (w:RdV K G v (.bool k)):v=.bl k:=by cases w;rfl
theorem zez {r r':R3} {ta tb tc:TE3} (hr:∀ a b (Q Q':Bool→D→Prop),(∀ f c,Q f c→Q' f c)→r a b Q→r a b Q') (hr':∀ a b (Q Q':Bool→D→Prop),(∀ f c,Q f c→Q' f c)→r' a b Q→r' a b Q') (ha:∀ ρ (Q Q':Cl→Prop),(∀ c,Q c→Q' c)→ta ρ Q→ta ρ Q') (hb:∀ ρ (Q Q':Cl→Prop),(∀ c,Q c→Q' c)→tb ρ Q→tb ρ Q')
    (hc:∀ ρ (Q Q':Cl→Prop),(∀ c,Q c→Q' c)→tc ρ Q→tc ρ Q'):∀ ρ (Q Q':Cl→Prop),(∀ c,Q c→Q' c)→ch3 r r' ta tb tc ρ Q→ch3 r r' ta tb tc ρ Q':=fun ρ Q Q' h q=>ha ρ _ _ (fun x=>hb ρ _ _ fun y=>hr x y _ _ fun _ z ⟨k,e,q⟩=>⟨k,e,by
    cases k with
    | true=>exact hc ρ _ _ (fun w=>hr' y w _ _ fun f d=>h _) q
    | false=>exact h _ q⟩) q
theorem zmF {r r':R3} {ta tb tc:TE3} (hr:∀ a b (Q Q':Bool→D→Prop),(∀ f c,Q f c→Q' f c)→r a b Q→r a b Q') (hr':∀ a b (Q Q':Bool→D→Prop),(∀ f c,Q f c→Q' f c)→r' a b Q→r' a b Q') (ha:∀ ρ (Q Q':Cl→Prop),(∀ c,Q c→Q' c)→ta ρ Q→ta ρ Q') (hb:∀ ρ (Q Q':Cl→Prop),(∀ c,Q c→Q' c)→tb ρ Q→tb ρ Q')
    (hc:∀ ρ (Q Q':Cl→Prop),(∀ c,Q c→Q' c)→tc ρ Q→tc ρ Q') {K:PySem.W.Frag}:∀ σ H Q,jk K H0 (ch3 r r' ta tb tc) σ H Q→zhv (zbl K H0 r) (zbl K H0 r') (jk K H0 ta) (jk K H0 tb) (jk K H0 tc) σ H Q:=fun σ H Q=>el5 fun G0 ρ G F q=>
  ⟨G0,ρ,G,F,ha ρ _ _ (fun x qx v1 G1 H1 g1 w1=>⟨G0,ρ,G1,F.gr g1,hb ρ _ _ (fun y qy v2 G2 H2 g2 w2=>⟨G2,x,y,g2.sub,w1.gr g2,w2,hr x y _ _ (fun _ z hyp v3 G3 H3 g3 r3=>by
    obtain⟨k,e,q⟩:=hyp;subst e;refine⟨k,zb3 r3.rd,?_⟩;cases k with
    | false=>exact q _ G3 H3 ((g1.trans g2).trans g3) (.sh (.sc rfl (.bl false)))
    | true=>exact⟨G0,ρ,G3,F.gr ((g1.trans g2).trans g3),hc ρ _ _ (fun w qw v4 G4 H4 g4 w4=>⟨G4,y,w,g4.sub,(w2.gr g3).gr g4,w4,hr' y w _ _ (fun f d k v G' H' g r=>k v G' H' ((((g1.trans g2).trans g3).trans g4).trans g) (.sh r)) qw⟩) q⟩) qy⟩) qx⟩) q⟩
theorem ZA {op op':CmpOp} {r r':R3} {ta tb tc:TE3} (ho:OpOk X (compareOp op) r) (ho':OpOk X (compareOp op') r') (ha:PE3 X H0 a ta) (hb:PE3 X H0 b tb) (hc:PE3 X H0 c tc) (hm:lastMarks [op,op'] [b,c]=false:=by with_unfolding_all rfl) :
    PT3 X H0 (.Compare a [op,op'] [b,c] pos) (tt3 (ch3 r r' ta tb tc)):=
  ⟨zbK (zez ho.mono ho'.mono ha.mono hb.mono hc.mono),PT.imp (zlb (ho.ok H0) (ho'.ok H0) ha.ok hb.ok hc.ok hm) fun σ H Q q=>zgf (zmF ho.mono ho'.mono ha.mono hb.mono hc.mono) σ H Q (zc4 (zez ho.mono ho'.mono ha.mono hb.mono hc.mono) σ H Q q)⟩
abbrev U3:=Cl→(Bool→D→Prop)→Prop
def zn3 (K:PySem.W.Frag) (H0:Hp) (r:U3):V→Hp→VK→Prop:=fun x H Q=>∃ G a,Sub G H∧Vw K H0 G H x a∧r a fun f d=>∀ v G' H',Gr G H G' H'→Rf K H0 G' f v d→Q v H'
structure UnOk (X:Cx) (f:Value→Sem Value) (r:U3):Prop where
  mono:∀ a (Q Q':Bool→D→Prop),(∀ f c,Q f c→Q' f c)→r a Q→r a Q'
  ok:∀ H0,UnR X f (zn3 X.K H0 r)
def u3 (r:U3) (ta:TE3):TE3:=fun ρ Q=>ta ρ fun a=>r a fun f d=>Q (.sh f d)
theorem un3 {op:UnaryOp} {r:U3} {ta:TE3} (ho:UnOk X (unaryOp op) r) (ha:PE3 X H0 a ta):PE3 X H0 (.UnaryOp op a pos) (u3 r ta):=
  ⟨fun ρ Q Q' h q=>ha.mono ρ _ _ (fun a=>ho.mono a _ _ fun f d=>h _) q,PE.imp (zk7 (ho.ok H0) ha.ok) fun σ H Q=>el5 fun G0 ρ G F q=>
    ⟨G0,ρ,G,F,ha.mono ρ _ _ (fun a qa v1 G1 H1 g1 w1=>⟨G1,a,g1.sub,w1,ho.mono a _ _ (fun f d k v G' H' g r=>k v G' H' (g1.trans g) (.sh r)) qa⟩) q⟩⟩
theorem val3 {t:TE3} (h:PE3 X H0 e t) (he:∀ whole,isTrue e X.env whole=(do let v ←whole;standAt e.pos;holding [v] (truthy v)):=by intro _;rfl):PT3 X H0 e (tt3 t):=
  ⟨zbK h.mono,PT.imp (zfL h.ok he) (zc4 h.mono)⟩
def and3 (t u:TT3):TT3:=fun ρ Q=>t ρ fun k=>if k=true then u ρ Q else Q false
def or3 (t u:TT3):TT3:=fun ρ Q=>t ρ fun k=>if k=true then Q true else u ρ Q
def not3 (t:TT3):TT3:=fun ρ Q=>t ρ fun k=>Q (!k)
theorem Jf {t:TT3} (h:PT3 X H0 a t):PT3 X H0 (.UnaryOp .Not a pos) (not3 t):=
  ⟨fun ρ Q Q' hq q=>h.mono ρ _ _ (fun k=>hq _) q,PT.imp (zgB h.ok) fun σ H Q=>el5 fun G0 ρ G F q=>⟨G0,ρ,G,F,q⟩⟩
theorem JE {t:TT3} (h:PT3 X H0 a t):PW3 X H0 (.BoolOp .And [a] pos) t:=⟨h.mono,zjX h.ok⟩
theorem zdI {t:TT3} (h:PT3 X H0 a t):PW3 X H0 (.BoolOp .Or [a] pos) t:=⟨h.mono,znm h.ok⟩
theorem Jh {rest:List Expr} {t u:TT3} (h:PT3 X H0 a t) (h':PW3 X H0 (.BoolOp .And (b::rest) pos) u):PW3 X H0 (.BoolOp .And (a::b::rest) pos) (and3 t u):=
  ⟨fun ρ Q Q' hq q=>h.mono ρ _ _ (fun k=>by cases k;exact hq _;exact h'.mono ρ _ _ hq) q,PW.imp (zlO h.ok h'.ok) fun σ H Q=>el5 fun G0 ρ G F q=>⟨G0,ρ,G,F,h.mono ρ _ _ (fun k qk G1 H1 g1=>by
    cases k with
    | false=>exact qk G1 H1 g1
    | true=>exact⟨G0,ρ,G1,F.gr g1,h'.mono ρ _ _ (fun k q G2 H2 g2=>q G2 H2 (g1.trans g2)) qk⟩) q⟩⟩
theorem zcJ {rest:List Expr} {t u:TT3} (h:PT3 X H0 a t) (h':PW3 X H0 (.BoolOp .Or (b::rest) pos) u):PW3 X H0 (.BoolOp .Or (a::b::rest) pos) (or3 t u):=
  ⟨fun ρ Q Q' hq q=>h.mono ρ _ _ (fun k=>by cases k;exact h'.mono ρ _ _ hq;exact hq _) q,PW.imp (zoD h.ok h'.ok) fun σ H Q=>el5 fun G0 ρ G F q=>⟨G0,ρ,G,F,h.mono ρ _ _ (fun k qk G1 H1 g1=>by
    cases k with
    | true=>exact qk G1 H1 g1
    | false=>exact⟨G0,ρ,G1,F.gr g1,h'.mono ρ _ _ (fun k q G2 H2 g2=>q G2 H2 (g1.trans g2)) qk⟩) q⟩⟩
theorem pw3 {t:TT3} (h:PW3 X H0 e t):PT3 X H0 e t:=⟨h.mono,h.ok.pt⟩
def zbs (ta tb:TE3):TE3:=fun ρ Q=>ta ρ fun c=>∃ k,c=.sh true (.bool k)∧if k=true then tb ρ Q else Q (.sh true (.bool false))
def za7 (ta:TE3):TE3:=fun ρ Q=>ta ρ fun c=>∃ k,c=.sh true (.bool k)∧Q (.sh true (.bool (!k)))
theorem one3 {op} {t:TE3} (h:PE3 X H0 a t):PE3 X H0 (.BoolOp op [a] pos) t:=⟨h.mono,zkC h.ok⟩
theorem zcE {rest:List Expr} {ta tb:TE3} (h:PE3 X H0 a ta) (h':PE3 X H0 (.BoolOp .And (b::rest) pos) tb):PE3 X H0 (.BoolOp .And (a::b::rest) pos) (zbs ta tb):=
  ⟨fun ρ Q Q' hq q=>h.mono ρ _ _ (fun c ⟨k,e,q⟩=>⟨k,e,by cases k;exact hq _ q;exact h'.mono ρ _ _ hq q⟩) q,PE.imp (zlu h.ok h'.ok) fun σ H Q=>el5 fun G0 ρ G F q=>⟨G0,ρ,G,F,h.mono ρ _ _ (fun c hyp v G1 H1 g1 w=>by
    obtain⟨k,e,qk⟩:=hyp;subst e;refine⟨k,zdT w,?_⟩;cases k with
    | false=>exact qk _ G1 H1 g1 (.sh (.sc rfl (.bl false)))
    | true=>exact⟨G0,ρ,G1,F.gr g1,h'.mono ρ _ _ (fun k q v G2 H2 g2=>q v G2 H2 (g1.trans g2)) qk⟩) q⟩⟩
theorem zmW {ta:TE3} (h:PE3 X H0 a ta):PE3 X H0 (.UnaryOp .Not a pos) (za7 ta):=
  ⟨fun ρ Q Q' hq q=>h.mono ρ _ _ (fun c ⟨k,e,q⟩=>⟨k,e,hq _ q⟩) q,PE.imp (znh h.ok) fun σ H Q=>el5 fun G0 ρ G F q=>⟨G0,ρ,G,F,h.mono ρ _ _ (fun c hyp v G1 H1 g1 w=>by
    obtain⟨k,e,qk⟩:=hyp;subst e;exact⟨k,zdT w,qk _ G1 H1 g1 (.sh (.sc rfl (.bl _)))⟩) q⟩⟩
def nil3:TA3:=fun _ Q=>Q []
def Je (ta:TE3) (tr:TA3):TA3:=fun ρ Q=>ta ρ fun c=>tr ρ fun cs=>Q (c::cs)
theorem zb:PA3 X H0 [] nil3:=⟨fun ρ Q Q' h q=>h _ q,PA.imp zQ fun σ H Q=>el5 fun G0 ρ G F q=>q [] G H (Gr.refl F.sub) .nil⟩
theorem za {es:List Expr} {ta:TE3} {tr:TA3} (ha:PE3 X H0 e ta) (hr:PA3 X H0 es tr) (hs:starEach (e::es) X.env=(false,eval e X.env)::starEach es X.env:=by rfl):PA3 X H0 (e::es) (Je ta tr):=
  ⟨fun ρ Q Q' h q=>ha.mono ρ _ _ (fun c=>hr.mono ρ _ _ fun cs=>h _) q,PA.imp (zR ha.ok hr.ok hs) fun σ H Q=>el5 fun G0 ρ G F q=>
    ⟨G0,ρ,G,F,ha.mono ρ _ _ (fun c qc v G1 H1 g1 w1=>⟨G0,ρ,G1,F.gr g1,hr.mono ρ _ _ (fun cs k vs G2 H2 g2 w2=>k (v::vs) G2 H2 (g1.trans g2) (.cons (w1.gr g2) w2)) qc⟩) q⟩⟩
def tup3 (t:TA3):TE3:=fun ρ Q=>t ρ fun cs=>optP (shs cs) fun p=>p.2.length≤sizeLine∧Q (.sh p.1 (.tuple p.2))
theorem jq {es:List Expr} {t:TA3} {x1} (h:PA3 X H0 es t):PE3 X H0 (.Tuple es x1 pos) (tup3 t):=
  ⟨fun ρ Q Q' hq q=>h.mono ρ _ _ (fun cs q=>by obtain⟨ds,e,z,q⟩:=z8 q;rw [e];exact⟨z,hq _ q⟩) q,PE.imp (ze2 h.ok) fun σ H Q=>el5 fun G0 ρ G F q=>⟨G0,ρ,G,F,h.mono ρ _ _ (fun cs hyp vs G1 H1 g1 w=>by
    obtain⟨ds,e,z,k⟩:=z8 hyp;have r:=w.shs e;refine⟨by rw [r.length];exact z,fun p hp=>k (.ref p) (upd G1 p (.tup vs)) (upd H1 p (.tup vs)) (g1.trans (Gr.put g1.sub hp)) (.sh ⟨.tup (SqT.of zh) (rdvs_same (z5 (g1.sub.free hp) _) r.rd),fun hf=>.tup zh (rdns_mono (z5 (g1.sub.free hp) _) (fun _ _ _ z=>z) (r.nw hf))⟩)⟩) q⟩⟩
def lst3 (t:TA3):TN3:=fun ρ Q=>t ρ fun cs=>optP (shs cs) fun p=>p.2.length≤sizeLine∧Q p.1 p.2
theorem zE {es:List Expr} {t:TA3} (h:PA3 X H0 es t):PN3 X H0 (.List es pos) (lst3 t):=
  ⟨fun ρ Q Q' hq q=>h.mono ρ _ _ (fun cs q=>by obtain⟨ds,e,z,q⟩:=z8 q;rw [e];exact⟨z,hq _ _ q⟩) q,PE.imp (jT h.ok) fun σ H Q=>el5 fun G0 ρ G F q=>⟨G0,ρ,G,F,h.mono ρ _ _ (fun cs hyp vs G1 H1 g1 w=>by
    obtain⟨ds,e,z,k⟩:=z8 hyp;have r:=w.shs e;exact⟨by rw [r.length];exact z,fun p hp=>k p vs G1 H1 g1 hp r⟩) q⟩⟩
abbrev C3:=List Cl→(Bool→D→Prop)→Prop
def zi3 (K:PySem.W.Frag) (H0:Hp) (r:C3):List V→Hp→VK→Prop:=fun xs H Q=>∃ G cs,Sub G H∧Vws K H0 G H xs cs∧r cs fun f d=>∀ v G' H',Gr G H G' H'→Rf K H0 G' f v d→Q v H'
structure CallOk (X:Cx) (f:Value) (r:C3):Prop where
  mono:∀ cs (Q Q':Bool→D→Prop),(∀ f c,Q f c→Q' f c)→r cs Q→r cs Q'
  ok:∀ H0,zC X f (zi3 X.K H0 r)
theorem zC.imp {f:Value} {r r':List V→Hp→VK→Prop} (h:zC X f r) (i:∀ xs H Q,r' xs H Q→r xs H Q):zC X f r':=fun pins s σ H xs us Q I rv q=>h pins s σ H xs us Q I rv (i _ _ _ q)
def cb3 (r:C3) (t:TA3):TE3:=fun ρ Q=>t ρ fun cs=>r cs fun f d=>Q (.sh f d)
variable {x:Str} {p:Pos} {es:List Expr} {id T:String}
theorem zw {r:C3} {t:TA3} (hc:CallOk X (.builtin id) r) (hg:Gl X x) (hm:X.mg x=none) (hv:bootBuiltins x=some (.builtin id)) (ha:PA3 X H0 (e::es) t) (hn:x≠"__name__":=by decide) (hdb:(x==("__debug__" : Str))=false:=by decide)
    (he:starEach (e::es) X.env=(false,eval e X.env)::starEach es X.env:=by rfl) (hpl:(backTo pos (starEach es X.env)).any (·.1)=false:=by rfl):PE3 X H0 (.Call (.Name x p) (e::es) [] pos) (cb3 r t):=
  ⟨fun ρ Q Q' h q=>ha.mono ρ _ _ (fun cs=>hc.mono cs _ _ fun f d=>h _) q,PE.imp (zcB (hc.ok H0) hg hm hv ha.ok hn hdb he hpl) fun σ H Q=>el5 fun G0 ρ G F q=>⟨G0,ρ,G,F,ha.mono ρ _ _ (fun cs qc vs G1 H1 g1 w=>⟨G1,cs,g1.sub,w,hc.mono cs _ _ (fun f d k v G' H' g r=>k v G' H' (g1.trans g) (.sh r)) qc⟩) q⟩⟩
theorem zZ {r:C3} {t:TA3} (hc:CallOk X (.type T) r) (hg:Gl X x) (hm:X.mg x=none) (hv:bootBuiltins x=some (.type T)) (ha:PA3 X H0 (e::es) t) (hn:x≠"__name__":=by decide) (hdb:(x==("__debug__" : Str))=false:=by decide)
    (he:starEach (e::es) X.env=(false,eval e X.env)::starEach es X.env:=by rfl) (hpl:(backTo pos (starEach es X.env)).any (·.1)=false:=by rfl):PE3 X H0 (.Call (.Name x p) (e::es) [] pos) (cb3 r t):=
  ⟨fun ρ Q Q' h q=>ha.mono ρ _ _ (fun cs=>hc.mono cs _ _ fun f d=>h _) q,PE.imp (zeU (hc.ok H0) hg hm hv ha.ok hn hdb he hpl) fun σ H Q=>el5 fun G0 ρ G F q=>⟨G0,ρ,G,F,ha.mono ρ _ _ (fun cs qc vs G1 H1 g1 w=>⟨G1,cs,g1.sub,w,hc.mono cs _ _ (fun f d k v G' H' g r=>k v G' H' (g1.trans g) (.sh r)) qc⟩) q⟩⟩
abbrev Sp3:=List D→(Bool→D→Prop)→(Addr→Prop)→Prop
def spL (K:PySem.W.Frag) (sp:Sp3):Sp:=fun vs H Q E=>∃ G ds,Sub G H∧RdVs K G vs ds∧sp ds (fun f d=>∀ v G' H',Gr G H G' H'→Rf K H G' f v d→Q v H') fun C=>∀ H',zt H H'→E (.ref C) none H'
theorem zdF {K:PySem.W.Frag} {G G':Hp} {v:V} {d:D} (h:zx d=true) (r:RdV K G v d):RdV K G' v d:=by
  cases r with
  | non=>exact .non
  | bl b=>exact .bl b
  | int i=>exact .int i
  | str s=>exact .str s
  | lst _ _=>cases h
  | tup _ _=>cases h
structure Df3 (P:Program) (w:World) (K:PySem.W.Frag) (mg:Str→Option Value) (base:Heap) (k:Nat) (x:Str) (ps:List Str) (sp:Sp3):Prop where
  mono:∀ ds (Q Q':Bool→D→Prop) (E E':Addr→Prop),(∀ f d,Q f d→Q' f d)→(∀ d,E d→E' d)→sp ds Q E→sp ds Q' E'
  ok:Df P w K mg base k x ps (spL K sp)
def za2 (sp:Sp3) (E:Addr→Prop) (t:TA3):TE3:=fun ρ Q=>t ρ fun cs=>cs.all Cl.dat=true∧sp (cs.map Cl.d) (fun f d=>((shs cs).isSome=true∨zx d=true∨f=true)∧Q (.sh f d)) E
theorem zhl:∀ {cs:List Cl} {p:Bool×List D},shs cs=some p→cs.map Cl.d=p.2
  | [],_,e=>by cases e;rfl
  | .sh _ d :: r, ds, e => by
    unfold shs at e;cases q:shs r with
    | none=>rw [q] at e;cases e
    | some es=>rw [q] at e;cases e;rw [List.map_cons,zhl q];rfl
  | .ow _ _::r,_,e=>by cases e
  | .ob _::r,_,e=>by cases e
  | .lo _ _::r,_,e=>by cases e
  | .fo _ _::r,_,e=>by cases e
  | .bg::r,_,e=>by cases e
def kept (H1 G1 G':Hp):Hp:=fun b=>open Classical in match G' b with
  | some (.tup xs)=>some (.tup xs)
  | o=>if H1 b=none then o else G1 b
theorem zj7 {H1 G1 G':Hp} {b:Addr} {xs:List V} (h:G' b=some (.tup xs)):kept H1 G1 G' b=some (.tup xs):=by unfold kept;rw [h]
theorem zio {H1 G1 G':Hp} {b:Addr} {o:HO} (h:G' b=some o) (n:H1 b=none):kept H1 G1 G' b=some o:=by
  unfold kept;rw [h];cases o<;>first|rfl|exact if_pos n
theorem zd1 {H1 G1 G':Hp} {b:Addr} {o:HO} (h:kept H1 G1 G' b=some o):(G' b=some o∧((∃ xs,o=.tup xs)∨H1 b=none))∨G1 b=some o:=by
  unfold kept at h
  split at h
  · rename_i xs e;cases h;exact .inl ⟨e,.inl ⟨_,rfl⟩⟩
  · by_cases n:H1 b=none
    · rw [if_pos n] at h;exact .inl ⟨h,.inr n⟩
    · rw [if_neg n] at h;exact .inr h
mutual
theorem zg4 {K:PySem.W.Frag} {H1 G1 G':Hp}:∀ {x:V} {d:D},RdN K H1 G' x d→RdN K H1 (kept H1 G1 G') x d
  | _,_,.non=>.non
  | _,_,.bl b=>.bl b
  | _,_,.int i=>.int i
  | _,_,.str x=>.str x
  | _,_,.lst q n r=>.lst (zio q n) n (rdns_kept r)
  | _,_,.tup q r=>.tup (zj7 q) (rdns_kept r)
theorem rdns_kept {K:PySem.W.Frag} {H1 G1 G':Hp}:∀ {xs:List V} {ds:List D},RdNs K H1 G' xs ds→RdNs K H1 (kept H1 G1 G') xs ds
  | _,_,.nil=>.nil
  | _,_,.cons a b=>.cons (zg4 a) (rdns_kept b)
end
theorem zil {G1 H1 G' H':Hp} (s:Sub G1 H1) (g:Gr (cln H1) H1 G' H'):Gr G1 H1 (kept H1 G1 G') H':=by
  refine⟨fun b o e=>?_,g.h,⟨fun b o e=>?_,fun b f e=>?_⟩,fun b o e=>?_⟩
  · have h1:=s.s b o e
    have h2:=g.g b o (JJ h1 fun f z=>by rw [z] at e;exact s.cl b f e)
    unfold kept;rw [h2];cases o<;>first|rfl|exact(if_neg (by rw [h1];intro z;cases z)).trans e
  · rcases zd1 e with ⟨h,_⟩|h
    · exact g.sub.s b o h
    · exact g.h.at (s.s b o h) fun f z=>by rw [z] at h;exact s.cl b f h
  · rcases zd1 e with ⟨h,_⟩|h
    · exact g.sub.cl b f h
    · exact s.cl b f h
  · rcases zd1 e with ⟨_,h|h⟩|h
    · exact .inr (.inr h)
    · exact .inr (.inl h)
    · exact .inl h
theorem df3 {k:Nat} {ps:List Str} {sp:Sp3} {E:XK} {E3:Addr→Prop} {t:TA3} (hE:∀ C H',E3 C→zt H0 H'→E (.ref C) none H') (Gd:Df3 X.prog X.w X.K X.mg X.base k x ps sp) (hr:Room k X.A) (hg:Gl X x) (hx:Passes (CXR X.prog X.w) X E) (ha:PA3 X H0 (e::es) t) (hdb:(x==("__debug__" : Str))=false:=by decide)
    (he:starEach (e::es) X.env=(false,eval e X.env)::starEach es X.env:=by rfl) (hpl:(backTo pos (starEach es X.env)).any (·.1)=false:=by rfl):PE3 X H0 (.Call (.Name x p) (e::es) [] pos) (za2 sp E3 t):=by
  refine⟨fun ρ Q Q' h q=>ha.mono ρ _ _ (fun cs ⟨hd,q⟩=>⟨hd,Gd.mono _ _ _ _ _ (fun f d ⟨a,b⟩=>⟨a,h _ b⟩) (fun _ z=>z) q⟩) q,PE.imp (zb9 Gd.ok hr hg hx ha.ok hdb he hpl) fun σ H Q=>el5 fun G0 ρ G F q=>⟨G0,ρ,G,F,ha.mono ρ _ _ (fun cs ⟨hd,qc⟩ vs G1 H1 g1 w=>?_) q⟩⟩
  show spL X.K sp (vs++[]) H1 Q E
  rw [List.append_nil];have kE:∀ C,E3 C→∀ H',zt H1 H'→E (.ref C) none H':=fun C c H' s=>hE C H' c ((F.gr g1).keep.trans s)
  cases hs:shs cs with
  | some ds=>
    refine⟨G1,cs.map Cl.d,g1.sub,by rw [zhl hs];exact(w.shs hs).rd,Gd.mono _ _ _ _ _ (fun f d ⟨_,k⟩ v G' H' g r=>k v G' H' (g1.trans g) (.sh ⟨r.rd,fun hf=>j8 (Same.refl _) (fun _ _ _ z=>(F.gr g1).keep.free z) (r.nw hf)⟩)) kE qc⟩
  | none=>
    refine⟨cln H1,cs.map Cl.d,zcc H1,rdvs_cln (w.rds g1.sub hd),Gd.mono _ _ _ _ _ (fun f d ⟨s,k⟩ v G' H' g r=>?_) kE qc⟩
    rcases s.resolve_left (by rw [hs];simp) with sc|hf
    · exact k v G1 H' (g1.trans ⟨Same.refl _,g.h,g1.sub.trans g.h,fun _ _ e=>.inl e⟩) (.sh (.sc sc (zdF sc r.rd)))
    · have n:=zg4 (G1:=G1) (r.nw hf)
      subst hf;exact k v _ H' (g1.trans (zil g1.sub g)) (.sh ⟨ze1 n,fun _=>j8 (Same.refl _) (fun _ _ _ z=>(F.gr g1).keep.free z) n⟩)
end
variable [LamW]
theorem zmn {K:PySem.W.Frag} {G:Hp} {vs:List V} {d:D} {ds:List D} (r:RdVs K G vs (d::ds)):∃ v us,vs=v::us∧RdV K G v d∧RdVs K G us ds:=by
  cases r with
  | cons a b=>exact⟨_,_,rfl,a,b⟩
theorem zkx {K:PySem.W.Frag} {G:Hp} {v:V} {ds:List D} (r:RdV K G v (.tuple ds)):∃ a xs,v=.ref a∧SqT K G a xs∧RdVs K G xs ds:=by
  cases r with
  | tup a b=>exact⟨_,_,rfl,a,b⟩
theorem zkI {K:PySem.W.Frag} {G:Hp} {v:V} {ds:List D} (r:RdV K G v (.list ds)):∃ a xs,v=.ref a∧SqL K G a xs∧RdVs K G xs ds:=by
  cases r with
  | lst a b=>exact⟨_,_,rfl,a,b⟩
theorem zi {K:PySem.W.Frag} {H0 G H:Hp} {v:V} {f:Bool} {d:D} (w:Vw K H0 G H v (.sh f d)):Rf K H0 G f v d:=by
  cases w with
  | sh r=>exact r
theorem zj1 {K:PySem.W.Frag} {H0 G:Hp} {f:Bool} {vs:List V} {d:D} {ds:List D} (r:Rfs K H0 G f vs (d::ds)):∃ v us,vs=v::us∧Rf K H0 G f v d∧Rfs K H0 G f us ds:=by
  obtain⟨v,us,rfl,a,b⟩:=zmn r.rd;exact⟨v,us,rfl,⟨a,fun h=>by cases r.nw h with|cons x y=>exact x⟩,⟨b,fun h=>by cases r.nw h with|cons x y=>exact y⟩⟩
theorem Zl {K:PySem.W.Frag} {H0 G:Hp} {f:Bool} {v:V} {ds:List D} (r:Rf K H0 G f v (.tuple ds)):∃ a xs,v=.ref a∧SqT K G a xs∧Rfs K H0 G f xs ds:=by
  cases f with
  | false=>
    obtain⟨a,xs,rfl,h,rs⟩:=zkx r.rd;exact⟨a,xs,rfl,h,rs,fun h=>by cases h⟩
  | true=>
    have n:=r.nw rfl;cases n with
    | tup h rs=>exact⟨_,_,rfl,SqT.of h,rdns_rd rs,fun _=>rs⟩
theorem zad {K:PySem.W.Frag} {H0 G:Hp} {f:Bool} {v:V} {ds:List D} (r:Rf K H0 G f v (.list ds)):∃ a xs,v=.ref a∧SqL K G a xs∧Rfs K H0 G f xs ds:=by
  cases f with
  | false=>
    obtain⟨a,xs,rfl,h,rs⟩:=zkI r.rd;exact⟨a,xs,rfl,h,rs,fun h=>by cases h⟩
  | true=>
    have n:=r.nw rfl;cases n with
    | lst h _ rs=>exact⟨_,_,rfl,SqL.of h,rdns_rd rs,fun _=>rs⟩
section
variable {X:Cx} {H0:Hp} {e a b c:Expr} {pos:Pos} {st:Stmt} {rest:List Stmt}
def next3:TS3:=fun A ρ=>A.nx ρ
def seq3 (t u:TS3):TS3:=fun A ρ=>t { A with nx:=u A } ρ
theorem zk:PSs3 X H0 [] next3:=PSs.imp zoT fun B σ H=>el7 fun G0 A ρ G F q L=>L.nx ρ σ G H F q
theorem zc {t u:TS3} (h1:PS3 X H0 st t) (h2:PSs3 X H0 rest u):PSs3 X H0 (st::rest) (seq3 t u):=PSs.imp (Jw h1 h2) fun B σ H=>el7 fun G0 A ρ G F q L=>
  ⟨G0,{ A with nx:=u A },ρ,G,F,q,⟨fun ρ' σ' G' H' F' q'=>⟨G0,A,ρ',G',F',q',L⟩,L.rt,L.bk,L.ct,L.rm⟩⟩
theorem ze {t:TS3} (h1:PS3 X H0 st t):PSs3 X H0 [st] t:=zby h1
def Z4 (te:TE3):TS3:=fun A ρ=>te ρ fun _=>A.nx ρ
theorem JS {te:TE3} (he:PE3 X H0 e te) (hs:swapsWith e none pos.line X.env=pure false:=by rfl):PS3 X H0 (.Expr e pos) (Z4 te):=PS.imp (Zr he.ok hs) fun B σ H=>el7 fun G0 A ρ G F q L=>
  ⟨G0,ρ,G,F,he.mono ρ _ _ (fun c q v G' H' g w=>L.nx ρ σ G' H' (F.gr g) q) q⟩
def ret3 (te:TE3):TS3:=fun A ρ=>te ρ fun c=>asS c A.rt
theorem zn {te:TE3} (he:PE3 X H0 e te):PS3 X H0 (.Return (some e) pos) (ret3 te):=PS.imp (zat he.ok) fun B σ H=>el7 fun G0 A ρ G F q L=>
  ⟨G0,ρ,G,F,he.mono ρ _ _ (fun c hyp v G' H' g w=>by
    obtain⟨f,d,hc,q⟩:=jS hyp;subst hc;exact L.rt f d v G' H' (F.gr g).gr0 (zi w) q) q⟩
def ifS3 (t:TT3) (u v:TS3):TS3:=fun A ρ=>t ρ fun k=>if k=true then u A ρ else v A ρ
theorem s_if {xs ys:List Stmt} {t:TT3} {u v:TS3} (hc:PT3 X H0 c t) (ha:PSs3 X H0 xs u) (hb:PSs3 X H0 ys v):PS3 X H0 (.If c xs ys pos) (ifS3 t u v):=PS.imp (zgv hc.ok ha hb) fun B σ H=>el7 fun G0 A ρ G F q L=>
  ⟨G0,ρ,G,F,hc.mono ρ _ _ (fun k q G' H' g=>by
    cases k with
    | true=>exact⟨G0,A,ρ,G',F.gr g,q,L⟩
    | false=>exact⟨G0,A,ρ,G',F.gr g,q,L⟩) q⟩
def set3 (i:Nat) (te:TE3):TS3:=fun A ρ=>te ρ fun c=>asS c fun f d=>A.nx (ρ.set i (some (.sh f d)))
theorem zl {i:Nat} {x:Str} {te:TE3} {pos':Pos} (hN:X.N.Nodup) (hi:X.N[i]?=some x) (hx:Loc X.env.scope x) (he:PE3 X H0 e te) (hs:swapsWith e (some (.Name x pos')) pos.line X.env=pure false:=by rfl)
    (hf:X.fn x=true∨X.env.scope.names.lookup x=some .local:=by first|exact .inl rfl|exact .inr rfl|assumption):PS3 X H0 (.Assign [.Name x pos'] e pos) (set3 i te):=PS.imp (Zt hN hi hx he.ok hs hf) fun B σ H=>el7 fun G0 A ρ G F q L=>
  ⟨G0,ρ,G,F,he.mono ρ _ _ (fun c hyp v G' H' g w=>by
    obtain⟨f,d,hc,q⟩:=jS hyp;subst hc;exact L.nx _ _ G' H' ((F.gr g).set (zi w)) q) q⟩
def own3 (i:Nat) (tn:TN3):TS3:=fun A ρ=>tn ρ fun f ds=>A.nx (ρ.set i (some (.ow f ds)))
theorem zfe {i:Nat} {x:Str} {tn:TN3} {pos':Pos} (hN:X.N.Nodup) (hi:X.N[i]?=some x) (hx:Loc X.env.scope x) (he:PN3 X H0 e tn) (hs:swapsWith e (some (.Name x pos')) pos.line X.env=pure false:=by rfl)
    (hf:X.fn x=true∨X.env.scope.names.lookup x=some .local:=by first|exact .inl rfl|exact .inr rfl|assumption):PS3 X H0 (.Assign [.Name x pos'] e pos) (own3 i tn):=PS.imp (Zt hN hi hx he.ok hs hf) fun B σ H=>el7 fun G0 A ρ G F q L=>
  ⟨G0,ρ,G,F,he.mono ρ _ _ (fun f ds q l vs G' H' g hl r=>L.nx _ _ G' _ ((F.gr g).own r hl) q) q⟩
abbrev TG3:=Bool→D→Env3→(Env3→Prop)→Prop
abbrev TGs3:=Bool→List D→Env3→(Env3→Prop)→Prop
def zaU (K:PySem.W.Frag) (H0:Hp) (g:TG3):TG:=fun v σ H Q=>∃ G0 ρ G f d,Fr3 K H0 G0 ρ σ G H∧Rf K H0 G f v d∧g f d ρ fun ρ'=>∀ σ' G' H',Fr3 K H0 G0 ρ' σ' G' H'→Same G G'→Gr G H G' H'→Q σ' H'
def zmV (K:PySem.W.Frag) (H0:Hp) (g:TGs3):TGs:=fun vs σ H Q=>∃ G0 ρ G f ds,Fr3 K H0 G0 ρ σ G H∧Rfs K H0 G f vs ds∧g f ds ρ fun ρ'=>∀ σ' G' H',Fr3 K H0 G0 ρ' σ' G' H'→Same G G'→Gr G H G' H'→Q σ' H'
structure PG3 (X:Cx) (H0:Hp) (tg:Expr) (g:TG3):Prop where
  mono:∀ f d ρ (Q Q':Env3→Prop),(∀ c,Q c→Q' c)→g f d ρ Q→g f d ρ Q'
  ok:PG X tg (zaU X.K H0 g)
structure PGs3 (X:Cx) (H0:Hp) (tg:List Expr) (g:TGs3):Prop where
  mono:∀ f d ρ (Q Q':Env3→Prop),(∀ c,Q c→Q' c)→g f d ρ Q→g f d ρ Q'
  ok:PGs X tg (zmV X.K H0 g)
theorem PG.imp {tg:Expr} {t t':TG} (h:PG X tg t) (i:∀ v σ H Q,t' v σ H Q→t v σ H Q):PG X tg t':=fun pins s σ H v u Q I r q=>h pins s σ H v u Q I r (i _ _ _ _ q)
theorem PGs.imp {tg:List Expr} {t t':TGs} (h:PGs X tg t) (i:∀ v σ H Q,t' v σ H Q→t v σ H Q):PGs X tg t':=fun pins s σ H v u Q I r q=>h pins s σ H v u Q I r (i _ _ _ _ q)
def gn3 (i:Nat):TG3:=fun f d ρ Q=>Q (ρ.set i (some (.sh (f||zx d) d)))
theorem zr {i:Nat} {x:Str} (hN:X.N.Nodup) (hi:X.N[i]?=some x) (hx:Loc X.env.scope x) (hf:X.fn x=true∨X.env.scope.names.lookup x=some .local:=by first|exact .inl rfl|exact .inr rfl|assumption):PG3 X H0 (.Name x pos) (gn3 i):=
  ⟨fun f d ρ Q Q' h q=>h _ q,PG.imp (zfY hN hi hx hf) fun v σ H Q ⟨G0,ρ,G,f,d,F,r,q⟩=>q _ G H (F.set r.or) (Same.refl _) (Gr.refl F.sub)⟩
def gnil3:TGs3:=fun _ ds ρ Q=>nilP ds (Q ρ)
def JG (t:TG3) (u:TGs3):TGs3:=fun f ds ρ Q=>J5 ds fun d r=>t f d ρ fun ρ'=>u f r ρ' Q
theorem Jl:PGs3 X H0 [] gnil3:=
  ⟨fun f d ρ Q Q' h q=>by obtain⟨e,q⟩:=zho q;subst e;exact h _ q,PGs.imp zk1 fun vs σ H Q hyp=>by
    obtain⟨G0,ρ,G,f,ds,F,r,q⟩:=hyp;obtain⟨e,q⟩:=zho q;subst e;cases r.rd;exact⟨rfl,q σ G H F (Same.refl _) (Gr.refl F.sub)⟩⟩
theorem je {es:List Expr} {t:TG3} {u:TGs3} (h1:PG3 X H0 e t) (h2:PGs3 X H0 es u) (hs:(assignEach (e::es) X.env).map (·.2)=assign e X.env::(assignEach es X.env).map (·.2):=by rfl):PGs3 X H0 (e::es) (JG t u):=
  ⟨fun f d ρ Q Q' h q=>by obtain⟨x,r,e,q⟩:=zg1 q;subst e;exact h1.mono f x ρ _ _ (fun ρ'=>h2.mono f r ρ' _ _ h) q,PGs.imp (zjN h1.ok h2.ok hs) fun vs σ H Q hyp=>by
    obtain⟨G0,ρ,G,f,ds,F,r,q⟩:=hyp;obtain⟨x,y,e,q⟩:=zg1 q;subst e;obtain⟨v,us,rfl,r1,r2⟩:=zj1 r;exact⟨v,us,rfl,G0,ρ,G,f,x,F,r1,h1.mono f x ρ _ _ (fun ρ' q σ1 G1 H1 F1 s1 g1=>⟨G0,ρ',G1,f,y,F1,r2.same s1,h2.mono f y ρ' _ _ (fun ρ2 q σ2 G2 H2 F2 s2 g2=>q σ2 G2 H2 F2 (s1.trans s2) (g1.trans g2)) q⟩) q⟩⟩
def ZC (n:Nat) (t:TGs3):TG3:=fun f d ρ Q=>asT d fun ds=>ds.length=n∧t f ds ρ Q
theorem J2 {es:List Expr} {k:Nat} {t:TGs3} {n:Nat} (hc:X.calm=true) (h:PGs3 X H0 es t) (hn:(assignEach es X.env).length=n:=by rfl) (hst:(assignEach es X.env).findIdx? (·.1)=none:=by rfl):PG3 X H0 (.Tuple es k pos) (ZC n t):=
  ⟨fun f d ρ Q Q' hq q=>by obtain⟨ds,e,l,q'⟩:=zfE q;subst e;exact⟨l,h.mono f ds ρ _ _ hq q'⟩,PG.imp (zoR hc h.ok hn hst) fun v σ H Q hyp=>by
    obtain⟨G0,ρ,G,f,d,F,r,q⟩:=hyp;obtain⟨ds,e,l,q'⟩:=zfE q;subst e;obtain⟨a,xs,rfl,hq,rs⟩:=Zl r;exact⟨a,xs,rfl,F.sub.tup hq,by rw [rs.length];exact l,G0,ρ,G,f,ds,F,rs,q'⟩⟩
theorem zg9 {K:PySem.W.Frag} {G0:Hp} {ρ : Env3} {σ : L2.St} {G H:Hp} {i:Nat} {f:Bool} {ds:List D} (F:Fr3 K H0 G0 ρ σ G H) (h:ρ[i]?=some (some (.ow f ds))):∃ l vs,σ[i]?=some (some (.ref l))∧H l=some (.lst vs)∧Rfs K H0 G f vs ds:=by
  obtain⟨v,h1,h2⟩:=F.slot i _ h;cases h2 with
  | ow hh r n=>exact⟨_,_,h1,hh,r⟩
def app3 (i:Nat) (te:TE3):TS3:=fun A ρ=>atO ρ[i]? fun f ds=>te ρ fun c=>asS c fun g d=>ds.length<sizeLine∧A.nx (ρ.set i (some (.ow (f&&g) (ds++[d]))))
theorem JQ {i:Nat} {te:TE3} {x:Str} {np apos cpos:Pos} (hN:X.N[i]?=some x) (hv:Vis X.env.scope x) (he:PE3 X H0 e te) (hd:(x==("__debug__" : Str))=false:=by decide) (hcd:(x==("__classdict__" : Str))=false:=by decide)
    (hb:attributeBase (.Name x np) "append" X.env (eval (.Name x np) X.env)=eval (.Name x np) X.env:=by rfl)
    (hf:((backTo cpos (starEach [e] X.env)).all (fun x=>!x.1)&&(backToKw cpos (keywordEach [] X.env)).all (fun x=>x.1.isSome)&&decide ([e].length+([]:List Keyword).length+(if([]:List Keyword).isEmpty then 0 else 1)<30))=true:=by rfl)
    (hl:(apos.endLine==cpos.line)=true:=by rfl) (hs:starEach [e] X.env=(false,eval e X.env)::starEach [] X.env:=by rfl) (hp:(backTo cpos (starEach [] X.env)).any (·.1)=false:=by rfl)
    (hw:swapsWith (.Call (.Attribute (.Name x np) "append" apos) [e] [] cpos) none pos.line X.env=pure false:=by rfl):PS3 X H0 (.Expr (.Call (.Attribute (.Name x np) "append" apos) [e] [] cpos) pos) (app3 i te):=by
  refine PS.imp (Zr (zai (z6 hN hv hd hcd) (zR he.ok zQ hs) hb hf hl hs hp) hw) fun B σ H hyp=>?_
  obtain⟨G0,A,ρ,G,F,q,L⟩:=hyp;obtain⟨f,ds,hi,q⟩:=zfG q;obtain⟨l,vs,h1,h2,r⟩:=zg9 F hi;refine⟨.ref l,h1,zaw h2,G0,ρ,G,F,he.mono ρ _ _ (fun c q v G' H' g w=>?_) q⟩
  obtain⟨f',d,hc,hz,q'⟩:=jS q;subst hc;exact⟨l,vs,v,rfl,rfl,g.h.at h2,by rw [r.length];exact hz,L.nx _ _ _ _ ((F.gr g).change hi h1 ((r.same g.g).snoc (zi w))) q'⟩
def put3 (i:Nat) (tk te:TE3):TS3:=fun A ρ=>atO ρ[i]? fun f ds=>te ρ fun c=>tk ρ fun k=>asS c fun g d=>asI k fun n=>∃ j,ixN ds.length n=some j∧A.nx (ρ.set i (some (.ow (f&&g) (ds.set j d))))
theorem zjz {i:Nat} {tk te:TE3} {x:Str} {np spos:Pos} {k:Expr} (hN:X.N[i]?=some x) (hv:Vis X.env.scope x) (hk:PE3 X H0 k tk) (he:PE3 X H0 e te) (hd:(x==("__debug__" : Str))=false:=by decide) (hcd:(x==("__classdict__" : Str))=false:=by decide)
    (hs:swapsWithSole [.Subscript (.Name x np) k spos] e pos.line X.env=pure false:=by rfl) (hw:swappedStores [.Subscript (.Name x np) k spos] e X.env=pure none:=by rfl)
    (h1:(assignEach [.Subscript (.Name x np) k spos] X.env).map (·.2)=[assign (.Subscript (.Name x np) k spos) X.env]:=by rfl)
    (ha:∀ v,assign (.Subscript (.Name x np) k spos) X.env v=(do
      let ov ←holding [v] (eval (.Name x np) X.env)
      let iv ←holding [v,ov] (eval k X.env)
      standAt spos
      holding [v,ov,iv] (setItem ov iv v)
      release [v,ov,iv] []):=by intro _;rfl):PS3 X H0 (.Assign [.Subscript (.Name x np) k spos] e pos) (put3 i tk te):=by
  refine PS.imp (zbZ he.ok (zcs (z6 hN hv hd hcd) hk.ok zbL ha) hs hw h1) fun B σ H hyp=>?_
  obtain⟨G0,A,ρ,G,F,q,L⟩:=hyp;obtain⟨f,ds,hi,q⟩:=zfG q;refine⟨G0,ρ,G,F,he.mono ρ _ _ (fun c qc v G1 H1 g1 w1=>?_) q⟩
  obtain⟨l,vs,h1,h2,r⟩:=zg9 F hi;refine⟨.ref l,h1,G0,ρ,G1,F.gr g1,hk.mono ρ _ _ (fun kc q kv G2 H2 g2 w2=>?_) qc⟩
  obtain⟨f',d,hc,q1⟩:=jS q;obtain⟨n,hn,j,hj,q'⟩:=jJ q1;subst hc hn;have rk:=(zi w2).rd;cases rk;refine⟨l,vs,n,j,rfl,rfl,g2.h.at (g1.h.at h2),by rw [r.length];exact hj,L.nx _ _ _ _ (((F.gr g1).gr g2).change hi h1 ((r.same (g1.g.trans g2.g)).set ((zi w1).same g2.g) j)) q'⟩
def frz1 (i:Nat) (ρ : Env3):Env3:=match ρ[i]? with
  | some (some (.ow f ds))=>ρ.set i (some (.sh f (.list ds)))
  | _=>ρ
def frz:List Nat→Env3→Env3
  | [],ρ=>ρ
  | i::r,ρ=>frz r (frz1 i ρ)
theorem Fr3.frz1 {K:PySem.W.Frag} {G0:Hp} {ρ : Env3} {σ : L2.St} {G H:Hp} (F:Fr3 K H0 G0 ρ σ G H) (i:Nat):∃ G',Same G G'∧Fr3 K H0 G0 (L3.frz1 i ρ) σ G' H:=by
  unfold L3.frz1
  split
  · rename_i f ds h;exact F.freeze h
  · exact⟨G,Same.refl _,F⟩
theorem Fr3.frz {K:PySem.W.Frag} {G0:Hp} {σ : L2.St} {H:Hp}:∀ (is:List Nat) {ρ : Env3} {G:Hp},Fr3 K H0 G0 ρ σ G H→∃ G',Same G G'∧Fr3 K H0 G0 (L3.frz is ρ) σ G' H
  | [],ρ,G,F=>⟨G,Same.refl _,F⟩
  | i :: r, ρ, G, F => by
    obtain⟨G1,s1,F1⟩:=F.frz1 i;obtain⟨G2,s2,F2⟩:=Fr3.frz r F1;exact⟨G2,s1.trans s2,F2⟩
def frzS (is:List Nat) (t:TS3):TS3:=fun A ρ=>t A (frz is ρ)
theorem zcW (is:List Nat) {t:TS3} (h:PS3 X H0 st t):PS3 X H0 st (frzS is t):=PS.imp h fun B σ H=>el7 fun G0 A ρ G F q L=>by
  obtain⟨G',s',F'⟩:=F.frz is;exact⟨G0,A,frz is ρ,G',F',q,L⟩
def whN (c:TT3) (tb:TS3) (A:Ends3):Nat→Env3→Prop
  | 0,_=>False
  | n+1,ρ=>c ρ fun k=>if k=true then tb { A with nx:=whN c tb A n,ct:=whN c tb A n,bk:=A.nx } ρ else A.nx ρ
def zky (c:TT3) (tb:TS3):TS3:=fun A ρ=>∃ n,whN c tb A n ρ
theorem zgh {body:List Stmt} {tc:TT3} {tb:TS3} (hp:PassesOwn (model X.prog X.w) X.A X.env X.xe) (hc:PT3 X H0 c tc) (hb:PSs3 X H0 body tb):PS3 X H0 (.While c body [] pos) (zky tc tb):=PS.imp (zkn hp hc.ok hb) fun B σ H hyp=>by
  obtain⟨G0,A,ρ,G,F,⟨n,q⟩,L⟩:=hyp;refine⟨fun m σ' H'=>∃ ρ' G',Fr3 X.K H0 G0 ρ' σ' G' H'∧whN tc tb A m ρ',⟨n,ρ,G,F,q⟩,?_⟩
  rintro m σ' H' ⟨ρ',G',F',q'⟩
  cases m with
  | zero=>exact q'.elim
  | succ m=>
    refine⟨G0,ρ',G',F',hc.mono ρ' _ _ (fun k q G2 H2 g=>?_) q'⟩
    cases k with
    | false=>exact L.nx ρ' σ' G2 H2 (F'.gr g) q
    | true=>
      exact⟨fun σ3 H3=>∃ ρ3 G3,Fr3 X.K H0 G0 ρ3 σ3 G3 H3∧whN tc tb A m ρ3,fun σ3 H3 h3=>⟨m,Nat.lt_succ_self _,h3⟩,
        G0,_,ρ',G2,F'.gr g,q,⟨fun ρ4 σ4 G4 H4 F4 q4=>⟨ρ4,G4,F4,q4⟩,L.rt,L.nx,fun ρ4 σ4 G4 H4 F4 q4=>⟨ρ4,G4,F4,q4⟩,L.rm⟩⟩
structure ItOk (K:PySem.W.Frag) (H0:Hp) (J:It) (fl:Bool) (ds:List D) (Gs:Hp):Prop where
  go:∀ (i:Nat) d G H,ds[i]?=some d→Same Gs G→Sub G H→J.go i H∧∀ x H',J.yld i H x H'→∃ G',Gr G H G' H'∧Rf K H0 G' fl x d
  stop:∀ (i:Nat) G H,i=ds.length→Same Gs G→Sub G H→J.stop i H
abbrev TI3:=Env3→(Bool→List D→Prop)→Prop
def zb6 (K:PySem.W.Frag) (H0:Hp) (t:TI3):TI:=fun σ H R=>∃ G0 ρ G,Fr3 K H0 G0 ρ σ G H∧t ρ fun f ds=>∀ J G' H',Gr G H G' H'→ItOk K H0 J f ds G'→R J H'
structure PI3 (X:Cx) (H0:Hp) (tg iter:Expr) (t:TI3):Prop where
  mono:∀ ρ (Q Q':Bool→List D→Prop),(∀ f c,Q f c→Q' f c)→t ρ Q→t ρ Q'
  ok:PI X tg iter (zb6 X.K H0 t)
def forL (g:TG3) (tb:TS3) (A:Ends3) (f:Bool):List D→Env3→Prop
  | [],ρ=>A.nx ρ
  | d::ds,ρ=>g f d ρ fun ρ'=>tb { A with nx:=forL g tb A f ds,ct:=forL g tb A f ds,bk:=A.nx } ρ'
def for3 (ti:TI3) (g:TG3) (tb:TS3):TS3:=fun A ρ=>ti ρ fun f ds=>forL g tb A f ds ρ
theorem zY {tg iter:Expr} {body:List Stmt} {ti:TI3} {g:TG3} {tb:TS3} (hp:PassesOwn (model X.prog X.w) X.A X.env X.xe) (hc:X.calm=true) (hi:PI3 X H0 tg iter ti) (hg:PG3 X H0 tg g) (hb:PSs3 X H0 body tb)
    (hs:∀ x,foldedSetIterable iter X.env x=pure x:=by intro _;rfl):PS3 X H0 (.For tg iter body [] pos) (for3 ti g tb):=PS.imp (zgd hp hc hi.ok hg.ok hb hs) fun B σ H=>el7 fun G0 A ρ G F q L=>by
  refine⟨G0,ρ,G,F,hi.mono ρ _ _ (fun f ds k J G1 H1 g1 ok=>?_) q⟩
  have B1:Fr3 X.K H0 G0 ρ σ G1 H1:=F.gr g1;refine⟨fun i m σ' H'=>i≤ds.length∧m=ds.length - i∧∃ ρ' G',Fr3 X.K H0 G1 ρ' σ' G' H'∧forL g tb A f (ds.drop i) ρ',⟨ds.length,Nat.zero_le _,rfl,ρ,G1,B1.rebase,k⟩,?_⟩
  rintro i m σ' H' ⟨hil,rfl,ρ',G',F',k'⟩
  by_cases hlt:i<ds.length
  · right
    have hd:ds[i]?=some ds[i]:=List.getElem?_eq_getElem hlt;obtain⟨hgo,hy⟩:=ok.go i _ G' H' hd F'.g0 F'.sub;rw [List.drop_eq_getElem_cons hlt] at k';refine⟨hgo,fun σ2 H2=>∃ ρ2 G2,Fr3 X.K H0 G1 ρ2 σ2 G2 H2∧forL g tb A f (ds.drop (i+1)) ρ2,fun σ2 H2 h2=>⟨_,Nat.sub_lt_sub_left hlt (Nat.lt_succ_self _),Nat.succ_le_of_lt hlt,rfl,h2⟩,fun x H2 y=>?_⟩
    obtain⟨G2,g2,r2⟩:=hy x H2 y;refine⟨G1,ρ',G2,f,_,F'.gr g2,r2,hg.mono f _ ρ' _ _ (fun ρ3 q3 σ3 G3 H3 F3 _ _=>⟨G1,_,ρ3,G3,F3,q3,?_⟩) k'⟩
    exact⟨fun ρ4 σ4 G4 H4 F4 q4=>⟨ρ4,G4,F4,q4⟩,fun f d v G4 H4 g4 r4 q4=>L.rt f d v G4 H4 (g4.back B1) r4 q4,fun ρ4 σ4 G4 H4 F4 q4=>L.nx ρ4 σ4 G4 H4 (F4.back B1) q4,fun ρ4 σ4 G4 H4 F4 q4=>⟨ρ4,G4,F4,q4⟩,fun c v ρ4 σ4 G4 H4 F4 w4 n4 q4=>L.rm c v ρ4 σ4 G4 H4 (F4.back B1) w4 n4 q4⟩
  · left
    have e:i=ds.length:=Nat.le_antisymm hil (Nat.not_lt.mp hlt);rw [e,List.drop_length] at k';exact⟨ok.stop i G' H' e F'.g0 F'.sub,L.nx ρ' σ' G' H' (F'.back B1) k'⟩
theorem PI.imp {tg iter:Expr} {t t':TI} (h:PI X tg iter t) (i:∀ σ H R,t' σ H R→t σ H R):PI X tg iter t':=fun pins s σ H R I q=>h pins s σ H R I (i _ _ _ q)
def itL (te:TE3):TI3:=fun ρ Q=>te ρ fun c=>asL c Q
def itT (te:TE3):TI3:=fun ρ Q=>te ρ fun c=>∃ f ds,c=.sh f (.tuple ds)∧Q f ds
theorem ziC {K:PySem.W.Frag} {H0 G:Hp} {a:Addr} {xs:List V} {f:Bool} {ds:List D} (hq:SqL K G a xs) (r:Rfs K H0 G f xs ds):ItOk K H0 (Itl K a) f ds G where
  go:=fun i d G' H hd s1 s2=>by
    obtain⟨x,hx,rx⟩:=r.get hd;refine⟨⟨xs,x,(s1.trans s2.s).seq hq,hx⟩,fun y H' ⟨e,hy⟩=>?_⟩
    subst e;have:=hy xs ((s1.trans s2.s).seq hq);rw [hx] at this;cases this;exact⟨G',Gr.refl s2,rx.same s1⟩
  stop:=fun i G' H hl s1 s2=>⟨xs,(s1.trans s2.s).seq hq,by rw [r.length,hl];exact Nat.le_refl _⟩
theorem zmh {K:PySem.W.Frag} {H0 G:Hp} {a:Addr} {xs:List V} {f:Bool} {ds:List D} (hq:SqT K G a xs) (r:Rfs K H0 G f xs ds):ItOk K H0 (Itt K a) f ds G where
  go:=fun i d G' H hd s1 s2=>by
    obtain⟨x,hx,rx⟩:=r.get hd;refine⟨⟨xs,x,(s1.trans s2.s).tup hq,hx⟩,fun y H' ⟨e,hy⟩=>?_⟩
    subst e;have:=hy xs ((s1.trans s2.s).tup hq);rw [hx] at this;cases this;exact⟨G',Gr.refl s2,rx.same s1⟩
  stop:=fun i G' H hl s1 s2=>⟨xs,(s1.trans s2.s).tup hq,by rw [r.length,hl];exact Nat.le_refl _⟩
theorem z9 {tg iter:Expr} {te:TE3} (h:PE3 X H0 iter te):PI3 X H0 tg iter (itL te):=
  ⟨fun ρ Q Q' hq q=>h.mono ρ _ _ (fun c q=>by obtain⟨f,ds,e,q⟩:=ze7 q;subst e;exact hq _ _ q) q,PI.imp (zf8 h.ok) fun σ H R=>el5 fun G0 ρ G F q=>⟨G0,ρ,G,F,h.mono ρ _ _ (fun c hyp v G' H' g w=>by
    obtain⟨f,ds,e,k⟩:=ze7 hyp;subst e;obtain⟨a,xs,rfl,hq,rs⟩:=zad (zi w);exact⟨a,rfl,⟨xs,g.sub.seq hq⟩,k _ G' H' g (ziC hq rs)⟩) q⟩⟩
theorem zhj {tg iter:Expr} {te:TE3} (h:PE3 X H0 iter te):PI3 X H0 tg iter (itT te):=
  ⟨fun ρ Q Q' hq q=>h.mono ρ _ _ (fun c ⟨f,ds,e,q⟩=>⟨f,ds,e,hq _ _ q⟩) q,PI.imp (zlJ h.ok) fun σ H R=>el5 fun G0 ρ G F q=>⟨G0,ρ,G,F,h.mono ρ _ _ (fun c hyp v G' H' g w=>by
    obtain⟨f,ds,e,k⟩:=hyp;subst e;obtain⟨a,xs,rfl,hq,rs⟩:=Zl (zi w);exact⟨a,rfl,⟨xs,g.sub.tup hq⟩,k _ G' H' g (zmh hq rs)⟩) q⟩⟩
def nums (lo:Int) (n:Nat):List D:=(List.range n).map fun i=>.int (lo+(i:Nat))
theorem zes {K:PySem.W.Frag} {H0 G:Hp} {lo:Int} {n:Nat}:ItOk K H0 (Itr lo n) true (nums lo n) G where
  go:=fun i d G' H hd s1 s2=>by
    unfold nums at hd;rw [List.getElem?_map] at hd
    by_cases hi:i<n
    · rw [List.getElem?_range hi] at hd
      cases hd;exact⟨hi,fun x H' ⟨e1,e2⟩=>by subst e1 e2;exact⟨G',Gr.refl s2,.sc rfl (.int _)⟩⟩
    · rw [List.getElem?_eq_none (by simpa using hi)] at hd;cases hd
  stop:=fun i G' H hl s1 s2=>by unfold nums at hl;show n≤i;simp at hl;omega
theorem zy {K:PySem.W.Frag} {G:Hp} {v:V} {i:Int} (r:RdV K G v (.int i)):v=.int i:=by cases r;rfl
theorem vws1 {K:PySem.W.Frag} {H0 G H:Hp} {vs:List V} {c:Cl} (w:Vws K H0 G H vs [c]):∃ v,vs=[v]∧Vw K H0 G H v c:=by
  cases w with
  | cons a b=>cases b;exact⟨_,rfl,a⟩
theorem vws2 {K:PySem.W.Frag} {H0 G H:Hp} {vs:List V} {c d:Cl} (w:Vws K H0 G H vs [c,d]):∃ v u,vs=[v,u]∧Vw K H0 G H v c∧Vw K H0 G H u d:=by
  cases w with
  | cons a b=>obtain⟨u,rfl,h⟩:=vws1 b;exact⟨_,_,rfl,a,h⟩
def rg1 (t:TA3):TI3:=fun ρ Q=>t ρ fun cs=>∃ j,cs=[.sh true (.int j)]∧(-(2 ^ 62)≤j∧j<2 ^ 62)∧Q true (nums 0 j.toNat)
def rg2 (t:TA3):TI3:=fun ρ Q=>t ρ fun cs=>∃ i j,cs=[.sh true (.int i),.sh true (.int j)]∧(-(2 ^ 62)≤i∧i<2 ^ 62∧-(2 ^ 62)≤j∧j<2 ^ 62)∧Q true (nums i (j - i).toNat)
theorem JC {tg a:Expr} {t:TA3} {p:Pos} (hg:Gl X "range") (hm:X.mg "range" = none) (ha:PA3 X H0 [a] t) (hs:starEach [a] X.env=[(false,eval a X.env)]:=by rfl):PI3 X H0 tg (.Call (.Name "range" p) [a] [] pos) (rg1 t):=
  ⟨fun ρ Q Q' hq q=>ha.mono ρ _ _ (fun c ⟨j,e,b,q⟩=>⟨j,e,b,hq _ _ q⟩) q,PI.imp (zmB hg hm ha.ok hs) fun σ H R=>el5 fun G0 ρ G F q=>⟨G0,ρ,G,F,ha.mono ρ _ _ (fun c hyp vs G' H' g w=>by
    obtain⟨j,e,b,k⟩:=hyp;subst e;obtain⟨v,rfl,w1⟩:=vws1 w;cases zy (zi w1).rd;exact⟨j,rfl,b.1,b.2,k _ G' H' g zes⟩) q⟩⟩
theorem zjx {tg a b:Expr} {t:TA3} {p:Pos} (hg:Gl X "range") (hm:X.mg "range" = none) (ha:PA3 X H0 [a,b] t) (hs:starEach [a,b] X.env=[(false,eval a X.env),(false,eval b X.env)]:=by rfl) (hs2:starEach [b] X.env=[(false,eval b X.env)]:=by rfl):PI3 X H0 tg (.Call (.Name "range" p) [a,b] [] pos) (rg2 t):=
  ⟨fun ρ Q Q' hq q=>ha.mono ρ _ _ (fun c ⟨i,j,e,b,q⟩=>⟨i,j,e,b,hq _ _ q⟩) q,PI.imp (ziV hg hm ha.ok hs hs2) fun σ H R=>el5 fun G0 ρ G F q=>⟨G0,ρ,G,F,ha.mono ρ _ _ (fun c hyp vs G' H' g w=>by
    obtain⟨i,j,e,b,k⟩:=hyp;subst e;obtain⟨v,u,rfl,w1,w2⟩:=vws2 w;cases zy (zi w1).rd;cases zy (zi w2).rd;exact⟨i,j,rfl,b,k _ G' H' g zes⟩) q⟩⟩
end
variable [LamW]
def cst3 (n:Nat) (js:List Nat) (ρ : Env3):Env3:=List.replicate n none++js.map fun j=>(ρ[j]?).join
def er (D:Addr) (H:Hp):Hp:=fun b=>if b=D then none else H b
theorem ZD {D:Addr} {H:Hp}:er D H D=none:=by unfold er;rw [if_pos rfl]
theorem jZ {D b:Addr} {H:Hp} (h:b≠D):er D H b=H b:=by unfold er;rw [if_neg h]
theorem zmw {D b:Addr} {H:Hp} {o:HO} (h:er D H b=some o):b≠D∧H b=some o:=by
  by_cases e:b=D
  · subst e;rw [ZD] at h;cases h
  · rw [jZ e] at h;exact⟨e,h⟩
theorem zjn {D:Addr} {H:Hp} {o:HO} (h:H D=some o):upd (er D H) D o=H:=by
  funext b
  by_cases e:b=D
  · subst e;rw [zh,h]
  · rw [zd e,jZ e]
theorem Gr.er {D:Addr} {G H G' H':Hp} (g:Gr G H G' H') (hD:G' D=none) (hx:∀ f,H' D≠some (.ext f)):Gr G (er D H) G' (er D H') where
  g:=g.g
  h:=fun b o e=>by
    obtain⟨n,e⟩:=zmw e;rw [jZ n]
    rcases g.h b o e with z|⟨z,y,c',h1,h2⟩
    · exact .inl z
    · exact .inr ⟨z,y,c',by rw [jZ n];exact h1,by rw [jZ (fun w=>by rw [w] at h2;exact hx _ h2)];exact h2⟩
  sub:=⟨fun b o e=>by
    rw [jZ (zG e hD)];exact g.sub.s b o e,g.sub.cl⟩
  new:=fun b o e=>by
    rcases g.new b o e with q|q|q
    · exact .inl q
    · by_cases hb:b=D
      · subst hb;exact .inr (.inl ZD)
      · exact .inr (.inl (by rw [jZ hb];exact q))
    · exact .inr (.inr q)
theorem JX {α : Type} {n i:Nat} {js:List Nat} {l:List (Option α)} {x:α} (h:(List.replicate n none++js.map fun j=>(l[j]?).join)[i]?=some (some x)):∃ j,n≤i∧js[i - n]?=some j∧l[j]?=some (some x):=by
  by_cases hi:i<n
  · rw [List.getElem?_append_left (by simpa using hi),List.getElem?_replicate,if_pos hi] at h
    cases h
  · rw [List.getElem?_append_right (by simpa using hi),List.length_replicate,List.getElem?_map] at h
    cases ej:js[i - n]? with
    | none=>rw [ej] at h;cases h
    | some j=>
      rw [ej] at h;have h':(l[j]?).join=some x:=Option.some.inj h;refine⟨j,Nat.not_lt.mp hi,rfl,?_⟩;cases q:l[j]? with
      | none=>rw [q] at h';cases h'
      | some o => rw [q] at h'; cases o with
        | none=>cases h'
        | some v=>cases h';rfl
theorem zjc {α : Type} {n i j:Nat} {js:List Nat} {l:List (Option α)} {x:α} (hi:n≤i) (hj:js[i - n]?=some j) (h:l[j]?=some (some x)):(List.replicate n none++js.map fun j=>(l[j]?).join)[i]?=some (some x):=by
  rw [List.getElem?_append_right (by simpa using hi),List.length_replicate,List.getElem?_map,hj]
  simp [h]
theorem Rf.asideU {K:PySem.W.Frag} {H0 G:Hp} {A:Addr} {ys:List V} {f:Bool} {v:V} {d:D} (r:Rf K H0 G f v d) (hA:G A=none):Rf K (upd H0 A (.lst ys)) G f v d:=⟨r.rd,fun h=>j8 (Same.refl _) (fun a o e n=>by rw [zd (zG e hA)];exact n) (r.nw h)⟩
theorem Rf.asideD {K:PySem.W.Frag} {H0 G:Hp} {A:Addr} {ys:List V} {f:Bool} {v:V} {d:D} (r:Rf K (upd H0 A (.lst ys)) G f v d):Rf K H0 G f v d:=⟨r.rd,fun h=>j8 (Same.refl _) (fun a o e n=>by
  have ha:a≠A:=fun z=>by subst z;rw [zh] at n;cases n
  rw [zd ha] at n;exact n) (r.nw h)⟩
theorem Rf.aside {K:PySem.W.Frag} {H0 G:Hp} {A:Addr} {ys zs:List V} {f:Bool} {v:V} {d:D} (r:Rf K (upd H0 A (.lst ys)) G f v d) (hA:G A=none):Rf K (upd H0 A (.lst zs)) G f v d:=r.asideD.asideU hA
theorem Rfs.asideU {K:PySem.W.Frag} {H0 G:Hp} {A:Addr} {ys:List V} {f:Bool} {v:List V} {d:List D} (r:Rfs K H0 G f v d) (hA:G A=none):Rfs K (upd H0 A (.lst ys)) G f v d:=⟨r.rd,fun h=>rdns_mono (Same.refl _) (fun a o e n=>by rw [zd (zG e hA)];exact n) (r.nw h)⟩
theorem Rfs.aside {K:PySem.W.Frag} {H0 G:Hp} {A:Addr} {ys zs:List V} {f:Bool} {v:List V} {d:List D} (r:Rfs K (upd H0 A (.lst ys)) G f v d) (hA:G A=none):Rfs K (upd H0 A (.lst zs)) G f v d:=⟨r.rd,fun h=>rdns_mono (Same.refl _) (fun a o e n=>by
  rw [zd (zG e hA)] at n ⊢;exact n) (r.nw h)⟩
theorem Vw.rebase {K:PySem.W.Frag} {H0 G H:Hp} {A:Addr} {v:V} {c:Cl} (w:Vw K H0 G (upd H A (.lst [])) v c) (s:Sub G H) (hA:H A=none):Vw K (upd H0 A (.lst [])) G (upd H A (.lst [])) v c:=by
  have gA:G A=none:=s.free hA;exact w.mv (Same.refl _) (fun a o e n=>by rw [zd (zG e gA)];exact n) (fun _ e=>e) fun _ _=>⟨rfl,rfl⟩
section
variable {K:PySem.W.Frag} {H0 G0:Hp} {ρ : Env3} {σ : L2.St} {G H:Hp} {D:Addr}
theorem Fr3.comp (F:Fr3 K H0 G0 ρ σ G H) (n:Nat) {js:List Nat} (hj:js.Nodup) (hD:H D=none):Fr3 K (upd H0 D (.lst [])) G (cst3 n js ρ) (cst n js σ) G (upd H D (.lst [])) where
  keep:=fun b o e=>by
    by_cases hb:b=D
    · subst hb;rw [zh] at e ⊢;exact .inl e
    · rw [zd hb] at e ⊢
      rcases F.keep b o e with z|⟨z,y,l⟩
      · exact .inl z
      · exact .inr ⟨z,y,l.same (z5 hD _).x⟩
  sub:=F.sub.trans (z5 hD _).x
  old:=fun b o e=>.inl e
  g0:=Same.refl _
  slot:=fun i c e=>by
    obtain⟨j,h1,h2,h3⟩:=JX e;obtain⟨v,h4,h5⟩:=F.slot j c h3;exact⟨v,zjc h1 h2 h4,(h5.gr (Gr.apart F.sub hD)).rebase F.sub hD⟩
  mine:=fun i c v a e e' h=>by
    obtain⟨j,h1,h2,h3⟩:=JX e;obtain⟨j',h1',h2',h3'⟩:=JX e';rw [h2] at h2';cases h2';obtain⟨⟨o,q,_⟩,_⟩:=(F.vw h3 h3').has h;rw [zd (zG q hD)];exact F.mine j c v a h3 h3' h
  apart:=fun i k c1 c2 v1 v2 a e1 e2 e3 e4 q1 q2=>by
    obtain⟨j,h1,h2,h3⟩:=JX e1;obtain⟨j',h1',h2',h3'⟩:=JX e2;obtain⟨j2,h4,h5,h6⟩:=JX e3;obtain⟨j3,h7,h8,h9⟩:=JX e4;rw [h2] at h5;cases h5;rw [h2'] at h8;cases h8;have e:=F.apart j j' c1 c2 v1 v2 a h3 h3' h6 h9 q1 q2;subst e;have ei:i - n=k - n:=by
      obtain⟨a1,b1⟩:=List.getElem?_eq_some_iff.mp h2;obtain⟨a2,b2⟩:=List.getElem?_eq_some_iff.mp h2';exact(List.getElem_inj hj).mp (b1.trans b2.symm)
    omega
  len:=by unfold cst3 cst;simp
theorem Fr3.aside {ys zs:List V} (F:Fr3 K (upd H0 D (.lst ys)) G0 ρ σ G H) (hG0:G0 D=none):Fr3 K (upd H0 D (.lst zs)) G0 ρ σ G (upd H D (.lst zs)):=by
  have hD:H D=some (.lst ys):=F.keep.at (b:=D) zh;have hG:G D=none:=by
    cases e:G D with
    | none=>rfl
    | some o=>
      rcases F.old D o e with q|q|⟨xs,q⟩
      · rw [hG0] at q;cases q
      · rw [zh] at q;cases q
      · have:=F.sub.s _ _ e;rw [hD,q] at this;cases this
  refine⟨fun b o e=>?_,⟨fun b o e=>by rw [zd (zG e hG)];exact F.sub.s b o e,F.sub.cl⟩,fun b o e=>?_,F.g0,fun i c e=>?_,fun i c v a e e' h=>?_,F.apart,F.len⟩
  · by_cases hb:b=D
    · subst hb;rw [zh] at e ⊢;exact .inl e
    · rw [zd hb] at e ⊢
      rcases F.keep b o (by rw [zd hb];exact e) with z|⟨z,y,l⟩
      · exact .inl z
      · exact .inr ⟨z,y,l.upd hb fun f q=>by rw [hD] at q;cases q⟩
  · rcases F.old b o e with q|q|q
    · exact .inl q
    · by_cases hb:b=D
      · subst hb;rw [zh] at q;cases q
      · rw [zd hb] at q;exact .inr (.inl (by rw [zd hb];exact q))
    · exact .inr (.inr q)
  · obtain⟨v,h1,h2⟩:=F.slot i c e
    refine⟨v,h1,?_⟩
    refine h2.mv (Same.refl _) (fun a o e n=>by rw [zd (zG e hG)] at n ⊢;exact n) (fun a h=>?_) fun a h=>⟨?_,rfl⟩
    · rw [zd (fun z=>by rw [z,hD] at h;cases h)];exact h
    · have q:=F.mine i c v a e h1 h
      exact zd fun z=>by rw [z,zh] at q;cases q
  · have q:=F.mine i c v a e e' h
    have hl:a≠D:=fun z=>by subst z;rw [zh] at q;cases q
    rw [zd hl] at q ⊢;exact q
theorem Fr3.atD {ys:List V} (F:Fr3 K (upd H0 D (.lst ys)) G0 ρ σ G H) (hG0:G0 D=none):G D=none∧H D=some (.lst ys):=by
  refine⟨?_,F.keep.at (b:=D) zh⟩
  cases e:G D with
  | none=>rfl
  | some o=>
    rcases F.old D o e with q|q|⟨xs,q⟩
    · rw [hG0] at q;cases q
    · rw [zh] at q;cases q
    · have h1:=F.sub.s _ _ e
      have h2:=F.keep.at (b:=D) zh;rw [h2,q] at h1;cases h1
end
section
variable {X:Cx} {H0:Hp} {pos:Pos}
structure PTs3 (X:Cx) (H0:Hp) (es:List Expr) (t:TT3):Prop where
  mono:∀ ρ (Q Q':Bool→Prop),(∀ c,Q c→Q' c)→t ρ Q→t ρ Q'
  ok:PTs X es (Jq X.K H0 t)
def true3:TT3:=fun _ Q=>Q true
theorem Jm:PTs3 X H0 [] true3:=⟨fun ρ Q Q' h q=>h _ q,fun pins s σ H Q I=>el5 fun G0 ρ G F q=>zmx pins s σ H Q I (q G H (Gr.refl F.sub))⟩
theorem zbV {c:Expr} {t:TT3} (h:PT3 X H0 c t):PTs3 X H0 [c] t:=⟨h.mono,zle h.ok⟩
def jm (g:TG3) (tt:TT3) (te:TE3) (f:Bool):List D→Bool→List D→Env3→(Bool→List D→Prop)→Prop
  | [],fa,acc,_,Q=>Q fa acc
  | d::ds,fa,acc,ρ,Q=>g f d ρ fun ρ'=>tt ρ' fun k=>if k=true then te ρ' fun c=>asS c fun fy y=>jm g tt te f ds (fa&&fy) (acc++[y]) ρ' Q else jm g tt te f ds fa acc ρ' Q
def JL (ti:TI3) (g:TG3) (tt:TT3) (te:TE3) (n:Nat) (js:List Nat):TN3:=fun ρ Q=>ti ρ fun f ds=>ds.length≤sizeLine∧jm g tt te f ds true [] (cst3 n js ρ) Q
theorem zdJ {g:TG3} {tt:TT3} {te:TE3} (hg:∀ f d ρ (Q Q':Env3→Prop),(∀ c,Q c→Q' c)→g f d ρ Q→g f d ρ Q') (ht:∀ ρ (Q Q':Bool→Prop),(∀ c,Q c→Q' c)→tt ρ Q→tt ρ Q') (he:∀ ρ (Q Q':Cl→Prop),(∀ c,Q c→Q' c)→te ρ Q→te ρ Q')
    {f:Bool} {Q Q':Bool→List D→Prop} (h:∀ f c,Q f c→Q' f c):∀ ds fa acc ρ,jm g tt te f ds fa acc ρ Q→jm g tt te f ds fa acc ρ Q'
  | [],fa,acc,ρ,q=>h _ _ q
  | d :: ds, fa, acc, ρ, q => hg f d ρ _ _ (fun ρ' => ht ρ' _ _ fun k => by
    cases k with
    | true=>exact he ρ' _ _ fun c q=>by obtain⟨fy,y,e,q⟩:=jS q;subst e;exact zdJ hg ht he h ds _ _ ρ' q
    | false=>exact zdJ hg ht he h ds fa acc ρ') q
theorem zgx {tn fn N:List Str} {js:List Nat} (nd:(tn++fn).Nodup) (hj:js.map (fun j=>N[j]?)=fn.map some):js.Nodup:=by
  have h1:(fn.map some).Nodup:=by
    have:=(List.nodup_append.mp nd).2.1;exact List.Pairwise.map some (fun a b h e=>h (Option.some.inj e)) this
  rw [←hj] at h1;exact List.Pairwise.of_map _ (fun a b h e=>h (by rw [e])) h1
theorem zfu {elt tg:Expr} {ifs:List Expr} {scope:Scope} {N:List Str} {g:TG3} {tt:TT3} {te:TE3}
    (hb:∀ H0 s H fp cl,PG3 (X.comp scope N s H fp cl) H0 tg g∧PTs3 (X.comp scope N s H fp cl) H0 ifs tt∧PE3 (X.comp scope N s H fp cl) H0 elt te):∀ s H fp cl,PG (X.comp scope N s H fp cl) tg (fun v σ H Q=>∃ H0,zaU X.K H0 g v σ H Q)∧PTs (X.comp scope N s H fp cl) ifs (fun σ H Q=>∃ H0,Jq X.K H0 tt σ H Q)∧PE (X.comp scope N s H fp cl) elt (fun σ H Q=>∃ H0,jk X.K H0 te σ H Q):=fun s H fp cl=>
  ⟨fun pins s' σ H' v u Q I r ⟨h0,q⟩=>(hb h0 s H fp cl).1.ok pins s' σ H' v u Q I r q,fun pins s' σ H' Q I ⟨h0,q⟩=>(hb h0 s H fp cl).2.1.ok pins s' σ H' Q I q,fun pins s' σ H' Q I ⟨h0,q⟩=>(hb h0 s H fp cl).2.2.ok pins s' σ H' Q I q⟩
theorem zhL {Y Y' Y'':Cx} {h1 h2 h3:Hp} {elt tg iter:Expr} {ifs:List Expr} {ti:TI3} {g:TG3} {tt:TT3} {te:TE3} {n:Nat} {js:List Nat} (hjn:js.Nodup) (hi:PI3 X H0 tg iter ti) (m1:PG3 Y h1 tg g) (m2:PTs3 Y' h2 ifs tt) (m3:PE3 Y'' h3 elt te) :
    ∀ σ H Q,zab X.K H0 (JL ti g tt te n js) σ H Q→zcb (zb6 X.K H0 ti) (fun v σ H Q=>∃ H0,zaU X.K H0 g v σ H Q) (fun σ H Q=>∃ H0,Jq X.K H0 tt σ H Q) (fun σ H Q=>∃ H0,jk X.K H0 te σ H Q) n js σ H Q:=by
  rintro σ H Q ⟨G0,ρ,G,F,q⟩
  refine⟨G0,ρ,G,F,hi.mono ρ _ _ (fun fl ds ⟨hz,k⟩ J G1 H1 g1 ok A hA=>?_) q⟩
  have F1:=F.gr g1;have gA:G1 A=none:=g1.sub.free hA;have h0A:H0 A=none:=F1.keep.free hA;refine⟨fun i m ys σ2 H2=>i≤ds.length∧m=ds.length - i∧ys.length≤i∧∃ ρ2 G2 fe es,Fr3 X.K (upd H0 A (.lst ys)) G1 ρ2 σ2 G2 H2∧Rfs X.K H0 G2 fe ys es∧Gr G1 H1 G2 (er A H2)∧jm g tt te fl (ds.drop i) fe es ρ2 (fun f ds=>∀ l vs G' H',Gr G H G' H'→H' l=none→Rfs X.K H0 G' f vs ds→Q (.ref l) (upd H' l (.lst vs))),
    ⟨ds.length,Nat.zero_le _,rfl,Nat.le_refl _,cst3 n js ρ,G1,true,[],F1.comp n hjn hA,.nil,?_,k⟩,?_⟩
  · have e:er A (upd H1 A (.lst []))=H1:=by
      funext b
      by_cases hb:b=A
      · subst hb;rw [ZD,hA]
      · rw [jZ hb,zd hb]
    rw [e];exact Gr.refl g1.sub
  rintro i m ys σ2 H2 ⟨hil,rfl,hyl,ρ2,G2,fe,es,F2,r2,g2,k2⟩
  obtain⟨hG2,hH2⟩:=F2.atD gA
  by_cases hlt:i<ds.length
  · right
    have hd:ds[i]?=some ds[i]:=List.getElem?_eq_getElem hlt;obtain⟨hgo,hy⟩:=ok.go i _ G2 H2 hd F2.g0 F2.sub;rw [List.drop_eq_getElem_cons hlt] at k2;refine⟨hgo,fun x H3 y=>?_⟩
    obtain⟨G3,g3,r3⟩:=hy x H3 y;have F3:=F2.gr g3;refine⟨upd H0 A (.lst ys),G1,ρ2,G3,fl,_,F3,r3.asideU (F3.atD gA).1,m1.mono fl _ ρ2 _ _ (fun ρ4 q4 σ4 G4 H4 F4 s4 g4=>?_) k2⟩
    refine⟨upd H0 A (.lst ys),G1,ρ4,G4,F4,m2.mono ρ4 _ _ (fun b q5 G5 H5 g5=>?_) q4⟩
    have F5:=F4.gr g5;have gg5:=(g3.trans g4).trans g5;cases b with
    | true=>
      refine⟨upd H0 A (.lst ys),G1,ρ4,G5,F5,m3.mono ρ4 _ _ (fun c q6 v G6 H6 g6 w6=>?_) q5⟩
      obtain⟨fy,y,hc,q6⟩:=jS q6;subst hc;have F6:=F5.gr g6;obtain⟨hG6,hH6⟩:=F6.atD gA;have gg6:=gg5.trans g6;refine⟨hH6,Nat.lt_of_lt_of_le (Nat.lt_of_le_of_lt hyl hlt) hz,ds.length - (i+1),Nat.sub_lt_sub_left hlt (Nat.lt_succ_self _),Nat.succ_le_of_lt hlt,rfl,by rw [List.length_append,List.length_singleton];omega,ρ4,G6,_,es++[y],F6.aside gA,(r2.same gg6.g).snoc ((zi w6).asideD),?_,q6⟩
      have e:er A (upd H6 A (.lst (ys++[v])))=er A H6:=by
        funext b
        by_cases hb:b=A
        · subst hb;rw [ZD,ZD]
        · rw [jZ hb,jZ hb,zd hb]
      rw [e];exact g2.trans (gg6.er hG6 fun f z=>by rw [hH6] at z;cases z)
    | false=>
      obtain⟨hG5,hH5⟩:=F5.atD gA;exact⟨ds.length - (i+1),Nat.sub_lt_sub_left hlt (Nat.lt_succ_self _),Nat.succ_le_of_lt hlt,rfl,Nat.le_succ_of_le hyl,ρ4,G5,fe,es,F5,r2.same gg5.g,g2.trans (gg5.er hG5 fun f z=>by rw [hH5] at z;cases z),q5⟩
  · left
    have e:i=ds.length:=Nat.le_antisymm hil (Nat.not_lt.mp hlt);rw [e,List.drop_length] at k2;refine⟨ok.stop i G2 H2 e F2.g0 F2.sub,?_⟩;have k3:=k2 A ys G2 (er A H2) (g1.trans g2) ZD r2;rw [zjn hH2] at k3;exact k3
theorem jA {elt tg iter:Expr} {ifs:List Expr} {scope:Scope} {ti:TI3} {g:TG3} {tt:TT3} {te:TE3} (tn fn:List Str) (js:List Nat) (hcalm:X.calm=true) (S:CompSc X.env.scope scope tn fn) (hj:js.map (fun j=>X.N[j]?)=fn.map some) (hi:PI3 X H0 tg iter ti)
    (hb:∀ H0 s H fp cl,PG3 (X.comp scope (tn++fn) s H fp cl) H0 tg g∧PTs3 (X.comp scope (tn++fn) s H fp cl) H0 ifs tt∧PE3 (X.comp scope (tn++fn) s H fp cl) H0 elt te)
    (hs:∀ x,foldedSetIterable iter X.env x=pure x:=by intro _;rfl):PN3 X H0 (.ListComp elt [⟨tg,iter,ifs,0⟩] scope pos) (JL ti g tt te tn.length js):=by
  obtain⟨m1,m2,m3⟩:=hb H0 X.s₀ X.H₀ [] [];have hjn:=zgx S.nd hj;refine⟨fun ρ Q Q' h q=>hi.mono ρ _ _ (fun f ds ⟨z,q⟩=>⟨z,zdJ m1.mono m2.mono m3.mono h ds _ _ _ q⟩) q,?_⟩
  exact PE.imp (zlX (wi:=zb6 X.K H0 ti) (g:=fun v σ H Q=>∃ H0,zaU X.K H0 g v σ H Q) (tt:=fun σ H Q=>∃ H0,Jq X.K H0 tt σ H Q) (te:=fun σ H Q=>∃ H0,jk X.K H0 te σ H Q) tn fn js hcalm S hj hi.ok (zfu hb) hs) (zhL hjn hi m1 m2 m3)
theorem zoK {elt tg iter:Expr} {ifs:List Expr} {scope:Scope} {spos pos':Pos} {i:Nat} {x:Str} {ti:TI3} {g:TG3} {tt:TT3} {te:TE3} (hN:X.N.Nodup) (hix:X.N[i]?=some x) (hx:Loc X.env.scope x) (tn fn:List Str) (js:List Nat) (hcalm:X.calm=true) (S:CompSc X.env.scope scope tn fn) (hj:js.map (fun j=>X.N[j]?)=fn.map some) (hi:PI3 X H0 tg iter ti)
    (hb:∀ H0 s H fp cl,PG3 (X.comp scope (tn++fn) s H fp cl) H0 tg g∧PTs3 (X.comp scope (tn++fn) s H fp cl) H0 ifs tt∧PE3 (X.comp scope (tn++fn) s H fp cl) H0 elt te)
    (hs:∀ x,foldedSetIterable iter X.env x=pure x:=by intro _;rfl)
    (hsw:swapsWith (.ListComp elt [⟨tg,iter,ifs,0⟩] scope pos) (some (.Name x pos')) spos.line X.env=pure true:=by rfl) (hf:X.fn x=true∨X.env.scope.names.lookup x=some .local:=by first|exact .inl rfl|exact .inr rfl|assumption) :
    PS3 X H0 (.Assign [.Name x pos'] (.ListComp elt [⟨tg,iter,ifs,0⟩] scope pos) spos) (own3 i (JL ti g tt te tn.length js)):=by
  obtain⟨m1,m2,m3⟩:=hb H0 X.s₀ X.H₀ [] [];have hjn:=zgx S.nd hj;have pn:=jA (pos:=pos) tn fn js hcalm S hj hi hb hs;refine PS.imp (zie hN hix hx (wi:=zb6 X.K H0 ti) (g:=fun v σ H Q=>∃ H0,zaU X.K H0 g v σ H Q) (tt:=fun σ H Q=>∃ H0,Jq X.K H0 tt σ H Q) (te:=fun σ H Q=>∃ H0,jk X.K H0 te σ H Q) tn fn js hcalm S hj hi.ok (zfu hb) hs hsw hf) fun B σ H=>el7 fun G0 A ρ G F q L=>?_
  exact zhL hjn hi m1 m2 m3 σ H _ ⟨G0,ρ,G,F,pn.mono ρ _ _ (fun f ds q l vs G' H' g hl r=>L.nx _ _ G' _ ((F.gr g).own r hl) q) q⟩
end
def j7 (N:List Str) (ds:List D):Env3:=ds.map (fun d=>some (.sh (zx d) d))++List.replicate (N.length - ds.length) none
theorem zjO {K:PySem.W.Frag} {G H:Hp} {N:List Str} {vs:List V} {ds:List D} (s:Sub G H) (r:RdVs K G vs ds):Fr3 K H G (j7 N ds) (start N vs) G H:=by
  have at3:∀ (i:Nat) c,(j7 N ds)[i]?=some (some c)→∃ d,ds[i]?=some d∧c=.sh (zx d) d:=fun i c e=>by
    unfold j7 at e
    by_cases hi:i<ds.length
    · rw [List.getElem?_append_left (by simpa using hi),List.getElem?_map] at e
      cases q:ds[i]? with
      | none=>rw [q] at e;cases e
      | some d=>rw [q] at e;cases e;exact⟨d,rfl,rfl⟩
    · rw [List.getElem?_append_right (by simpa using hi),List.getElem?_replicate] at e
      split at e<;>cases e
  refine⟨zt.refl _,s,fun b o e=>.inl e,Same.refl _,fun i c e=>?_,fun i c v a e _ h=>?_,fun i j c c' v v' a e _ _ _ h _=>?_,?_⟩
  · obtain⟨d,hd,rfl⟩:=at3 i c e
    obtain⟨x,hx,rx⟩:=r.get hd;refine⟨x,?_,.sh ⟨rx,fun h=>Jg h rx⟩⟩
    unfold L2.start;have hi:i<vs.length:=(List.getElem?_eq_some_iff.mp hx).1;rw [List.getElem?_append_left (by simpa using hi),List.getElem?_map,hx];rfl
  · obtain⟨d,hd,z⟩:=at3 i _ e;subst z;exact False.elim h
  · obtain⟨d,hd,z⟩:=at3 i _ e;subst z;exact False.elim h
  · unfold j7 L2.start;simp [r.length]
theorem fn3 {P:Program} {w:World} {K:PySem.W.Frag} {mg:Str→Option Value} {base:Heap} {x qual:Str} {st:Stmt} {f:Addr} {fd:FuncData} {N ps:List Str} {k:Nat} {sp:Sp3} (F:Fun K x qual st f fd) (S:FnScope N ps (zf st)) (len:∀ ds Q E,sp ds Q E→ds.length=ps.length)
    (hbody:∀ (cdv:Value) (A:Around) (outer:List Env) (s:Shared) (H:Hp) (E:XK) (E3:Addr→Prop),(∀ C H',E3 C→zt H H'→E (.ref C) none H')→Room k (A.deeper (envOfC qual (zf st) s.heap.objs.size f cdv))→
      ∃ t,PSs3 (cxOf (CXR P w) P w K mg base N qual (zf st) f cdv A outer s H E) H (jC st) t∧∀ ds Q,sp ds Q E3→t { nx:=fun _=>Q true .none,rt:=Q } (j7 N ds)):FnOk P w K mg base (CXR P w) (k+1) f fd ps (spL K sp):=by
  refine F.okR S (fun vs H Q E h=>?_) (fun cdv A outer s H vs Q E hr h=>?_)
  · obtain⟨G,ds,_,r,h⟩:=h
    rw [r.length];exact len _ _ _ h
  · obtain⟨G,ds,sG,r,h⟩:=h
    obtain⟨t,ht,hq⟩:=hbody cdv A outer s H E (fun C=>∀ H',zt H H'→E (.ref C) none H') (fun C H' e z=>e H' z) hr
    refine⟨_,ht,G,_,j7 N ds,G,zjO sG r,hq ds _ h,⟨fun ρ σ G' H' F' q=>q .non G' H' F'.gr0 (.sc rfl .non),fun f d v G' H' g rd q=>q v G' H' g rd,fun _ _ _ _ _ q=>q.elim,fun _ _ _ _ _ q=>q.elim,fun _ _ _ _ _ _ _ _ _ q=>q.elim⟩⟩
def zac (C:Addr) (E:Addr→Prop) (t:TA3):TS3:=fun _ ρ=>t ρ fun cs=>cs.length≤sizeLine∧E C
theorem zbX {K:PySem.W.Frag} {H0 G H:Hp} {vs:List V} {cs:List Cl} (h:Vws K H0 G H vs cs):vs.length=cs.length:=by
  induction h with
  | nil=>rfl
  | cons _ _ ih=>rw [List.length_cons,List.length_cons,ih]
theorem zJ {X:Cx} {H0:Hp} {x:Str} {C:Addr} {e0:Expr} {t:TA3} {E:XK} {E3:Addr→Prop} {np cpos pos:Pos} (hE:∀ C H',E3 C→zt H0 H'→E (.ref C) none H') (hf:Flies X E) (hc:X.calm=true) (hg:Gl X x) (hm:X.mg x=some (.ref C)) (hx:PySem.W.excIn X.K C bmVE "ValueError.__new__" = true) (ha:PA3 X H0 [e0] t)
    (hdb:(x==("__debug__" : Str))=false:=by decide) (hs:starEach [e0] X.env=[(false,eval e0 X.env)]:=by rfl):PS3 X H0 (.Raise (some (.Call (.Name x np) [e0] [] cpos)) none pos) (zac C E3 t):=
  PS.imp (zh9 hf hc hg hm hx ha.ok hdb hs) fun B σ H=>el7 fun G0 A ρ G F q L=>⟨G0,ρ,G,F,ha.mono ρ _ _ (fun cs ⟨z,e⟩ vs G' H' g w=>⟨by rw [zbX w];exact z,hE C H' e (F.gr g).keep⟩) q⟩
variable [LamW]
theorem zW {K:PySem.W.Frag} {G:Hp} {v:V} {i:Str} (r:RdV K G v (.str i)):v=.str i:=by cases r;rfl
theorem zj5 {K:PySem.W.Frag} {G:Hp} {v:V} (r:RdV K G v .none):v=.non:=by cases r;rfl
section
variable {X:Cx}
def add3:R3:=fun a b Q=>match a,b with
  | .sh _ (.int i),.sh _ (.int j)=>Q true (.int (i+j))
  | .sh _ (.str x),.sh _ (.str y)=>x.length+y.length≤sizeLine∧Q true (.str (x++y))
  | _,_=>False
def int3 (C:Int→Int→Prop) (g:Int→Int→D):R3:=fun a b Q=>match a,b with
  | .sh _ (.int i),.sh _ (.int j)=>C i j∧Q true (g i j)
  | _,_=>False
def int0 (g:Int→Int→D):R3:=fun a b Q=>match a,b with
  | .sh _ (.int i),.sh _ (.int j)=>Q true (g i j)
  | _,_=>False
theorem zu:OpOk X (binaryOp .Add) add3:=by
  refine⟨fun a b Q Q' h q=>?_,fun H0=>OpR.imp (zmz.or zkh) fun x y H Q=>el3 fun G a b s wa wb q=>?_⟩
  · unfold add3 at *;split at q
    · exact h _ _ q
    · exact⟨q.1,h _ _ q.2⟩
    · exact q
  · unfold add3 at q;split at q
    · cases zy (zi wa).rd;cases zy (zi wb).rd
      exact .inl ⟨_,_,rfl,rfl,q _ G H (Gr.refl s) (.sc rfl (.int _))⟩
    · cases zW (zi wa).rd;cases zW (zi wb).rd
      exact .inr ⟨_,_,rfl,rfl,q.1,q.2 _ G H (Gr.refl s) (.sc rfl (.str _))⟩
    · exact q.elim
theorem opI3 {f:Value→Value→Sem Value} {C:Int→Int→Prop} {g:Int→Int→Int} (h:OpR X f (rI C fun i j=>.int (g i j))):OpOk X f (int3 C fun i j=>.int (g i j)):=by
  refine⟨fun a b Q Q' h q=>?_,fun H0=>OpR.imp h fun x y H Q=>el3 fun G a b s wa wb q=>?_⟩
  · unfold int3 at *;split at q
    · exact⟨q.1,h _ _ q.2⟩
    · exact q
  · unfold int3 at q;split at q
    · cases zy (zi wa).rd;cases zy (zi wb).rd
      exact⟨_,_,rfl,rfl,q.1,q.2 _ G H (Gr.refl s) (.sc rfl (.int _))⟩
    · exact q.elim
theorem zlS {f:Value→Value→Sem Value} {g:Int→Int→Int} (h:OpR X f (rI0 fun i j=>.int (g i j))):OpOk X f (int0 fun i j=>.int (g i j)):=by
  refine⟨fun a b Q Q' h q=>?_,fun H0=>OpR.imp h fun x y H Q=>el3 fun G a b s wa wb q=>?_⟩
  · unfold int0 at *;split at q
    · exact h _ _ q
    · exact q
  · unfold int0 at q;split at q
    · cases zy (zi wa).rd;cases zy (zi wb).rd
      exact⟨_,_,rfl,rfl,q _ G H (Gr.refl s) (.sc rfl (.int _))⟩
    · exact q.elim
theorem zbY {f:Value→Value→Sem Value} {g:Int→Int→Bool} (h:OpR X f (rI0 fun i j=>.bl (g i j))):OpOk X f (int0 fun i j=>.bool (g i j)):=by
  refine⟨fun a b Q Q' h q=>?_,fun H0=>OpR.imp h fun x y H Q=>el3 fun G a b s wa wb q=>?_⟩
  · unfold int0 at *;split at q
    · exact h _ _ q
    · exact q
  · unfold int0 at q;split at q
    · cases zy (zi wa).rd;cases zy (zi wb).rd
      exact⟨_,_,rfl,rfl,q _ G H (Gr.refl s) (.sc rfl (.bl _))⟩
    · exact q.elim
theorem zbS:OpOk X (binaryOp .Sub) (int0 fun i j=>.int (i - j)):=zlS ziN
theorem jz:OpOk X (binaryOp .Mult) (int3 IntMulOk fun i j=>.int (i*j)):=opI3 zku
theorem jn:OpOk X (binaryOp .FloorDiv) (int3 jM fun i j=>.int (i/j)):=opI3 zl7
theorem zN:OpOk X (binaryOp .Mod) (int3 (fun _ j=>0<j) fun i j=>.int (i%j)):=opI3 zh0
theorem zdk:OpOk X (binaryOp .Pow) (int3 zbC fun i j=>.int (i ^ j.toNat)):=opI3 znC
theorem jG:OpOk X (compareOp .Lt) (int0 fun i j=>.bool (decide (i<j))):=zbY ziz
theorem j9:OpOk X (compareOp .LtE) (int0 fun i j=>.bool (decide (i≤j))):=zbY zly
theorem J1:OpOk X (compareOp .Gt) (int0 fun i j=>.bool (decide (j<i))):=zbY zko
theorem zhR:OpOk X (compareOp .GtE) (int0 fun i j=>.bool (decide (j≤i))):=zbY zoe
def neg3:U3:=fun a Q=>match a with
  | .sh _ (.int i)=>Q true (.int (-i))
  | _=>False
theorem UnR.imp {f:Value→Sem Value} {r r':V→Hp→VK→Prop} (h:UnR X f r) (i:∀ x H Q,r' x H Q→r x H Q):UnR X f r':=fun pins s σ H x v Q I rx q=>h pins s σ H x v Q I rx (i _ _ _ q)
theorem zhm:UnOk X (unaryOp .USub) neg3:=by
  refine⟨fun a Q Q' h q=>?_,fun H0=>UnR.imp zl2 fun x H Q ⟨G,a,s,wa,q⟩=>?_⟩
  · unfold neg3 at *;split at q
    · exact h _ _ q
    · exact q
  · unfold neg3 at q;split at q
    · cases zy (zi wa).rd
      exact⟨_,rfl,q _ G H (Gr.refl s) (.sc rfl (.int _))⟩
    · exact q.elim
def eqOk:D→D→Prop
  | .str _,.str _=>True
  | .int _,.int _=>True
  | d,e=>SeqAt.shaped d=true∧SeqAt.shaped e=true
def eqv3:D→D→Bool
  | .str x,.str y=>decide (x=y)
  | .int x,.int y=>decide (x=y)
  | d,e=>PyData.eqv d e
def eq3:R3:=fun a b Q=>a.dat=true∧b.dat=true∧eqOk a.d b.d∧Q true (.bool (eqv3 a.d b.d))
def ne3:R3:=fun a b Q=>a.dat=true∧b.dat=true∧eqOk a.d b.d∧Q true (.bool (!eqv3 a.d b.d))
theorem zfZ {d e:D}:(∃ x y,d=.str x∧e=.str y∧eqv3 d e=decide (V.str x=V.str y))∨(∃ x y,d=.int x∧e=.int y∧eqv3 d e=decide (V.int x=V.int y))∨(eqv3 d e=PyData.eqv d e∧(eqOk d e→SeqAt.shaped d=true∧SeqAt.shaped e=true)):=by
  cases d<;>cases e<;>first
    | exact .inr (.inr ⟨rfl,fun h=>h⟩)
    | exact .inl ⟨_,_,rfl,rfl,by simp [eqv3]⟩
    | exact .inr (.inl ⟨_,_,rfl,rfl,by simp [eqv3]⟩)
theorem zD (hu:X.A.units+64<cLine):OpOk X (compareOp .Eq) eq3:=by
  refine⟨fun a b Q Q' h ⟨x,y,z,q⟩=>⟨x,y,z,h _ _ q⟩,fun H0=>OpR.imp (zkm.or (zlM hu)) fun x y H Q ⟨G,a,b,s,wa,wb,ha,hb,ho,q⟩=>?_⟩
  have ra:=wa.rd s ha;have rb:=wb.rd s hb
  rcases zfZ (d:=a.d) (e:=b.d) with ⟨i,j,e1,e2,e3⟩|⟨i,j,e1,e2,e3⟩|⟨e3,hs⟩
  · rw [e1] at ra;rw [e2] at rb
    cases zW ra;cases zW rb
    exact .inl ⟨rfl,by rw [←e3];exact q _ G H (Gr.refl s) (.sc rfl (.bl _))⟩
  · rw [e1] at ra;rw [e2] at rb
    cases zy ra;cases zy rb
    exact .inl ⟨rfl,by rw [←e3];exact q _ G H (Gr.refl s) (.sc rfl (.bl _))⟩
  · exact .inr ⟨_,_,ra,rb,(hs ho).1,(hs ho).2,by rw [←e3];exact q _ G H (Gr.refl s) (.sc rfl (.bl _))⟩
theorem jR (hu:X.A.units+64<cLine):OpOk X (compareOp .NotEq) ne3:=by
  refine⟨fun a b Q Q' h ⟨x,y,z,q⟩=>⟨x,y,z,h _ _ q⟩,fun H0=>OpR.imp (zlF.or (ziR hu)) fun x y H Q ⟨G,a,b,s,wa,wb,ha,hb,ho,q⟩=>?_⟩
  have ra:=wa.rd s ha;have rb:=wb.rd s hb
  rcases zfZ (d:=a.d) (e:=b.d) with ⟨i,j,e1,e2,e3⟩|⟨i,j,e1,e2,e3⟩|⟨e3,hs⟩
  · rw [e1] at ra;rw [e2] at rb
    cases zW ra;cases zW rb
    exact .inl ⟨rfl,by rw [←e3];exact q _ G H (Gr.refl s) (.sc rfl (.bl _))⟩
  · rw [e1] at ra;rw [e2] at rb
    cases zy ra;cases zy rb
    exact .inl ⟨rfl,by rw [←e3];exact q _ G H (Gr.refl s) (.sc rfl (.bl _))⟩
  · exact .inr ⟨_,_,ra,rb,(hs ho).1,(hs ho).2,by rw [←e3];exact q _ G H (Gr.refl s) (.sc rfl (.bl _))⟩
def isNone:Cl→Bool
  | .sh _ .none=>true
  | _=>false
theorem zl1 {K:PySem.W.Frag} {H0 G H:Hp} {v:V} {c:Cl} (w:Vw K H0 G H v c):decide (v=.non)=isNone c:=by
  cases w with
  | sh r=>cases r.rd<;>simp [isNone]
  | ow _ _ _=>simp [isNone]
  | _=>simp [isNone]
def notN3:R3:=fun a b Q=>b=.sh true .none∧Q true (.bool (!isNone a))
theorem zfK:OpOk X (compareOp .IsNot) notN3:=⟨fun a b Q Q' h ⟨e,q⟩=>⟨e,h _ _ q⟩,fun H0=>OpR.imp zoQ fun x y H Q hyp=>by
  obtain⟨G,a,b,s,wa,wb,e,q⟩:=hyp;subst e;exact⟨zj5 (zi wb).rd,by rw [zl1 wa];exact q _ G H (Gr.refl s) (.sc rfl (.bl _))⟩⟩
def inS3 (neg:Bool):R3:=fun a b Q=>match a,b with
  | .sh _ (.str x),.sh _ (.str y)=>Q true (.bool (if neg then !(!(Builtin.Str.occurrences y x 0 y.length 1).isEmpty) else !(Builtin.Str.occurrences y x 0 y.length 1).isEmpty))
  | _,_=>False
theorem zlj:OpOk X (compareOp .In) (inS3 false):=by
  refine⟨fun a b Q Q' h q=>?_,fun H0=>OpR.imp zlC fun x y H Q=>el3 fun G a b s wa wb q=>?_⟩
  · unfold inS3 at *;split at q
    · exact h _ _ q
    · exact q
  · unfold inS3 at q;split at q
    · cases zW (zi wa).rd;cases zW (zi wb).rd
      exact⟨_,_,rfl,rfl,q _ G H (Gr.refl s) (.sc rfl (.bl _))⟩
    · exact q.elim
theorem zoo:OpOk X (compareOp .NotIn) (inS3 true):=by
  refine⟨fun a b Q Q' h q=>?_,fun H0=>OpR.imp zlV fun x y H Q=>el3 fun G a b s wa wb q=>?_⟩
  · unfold inS3 at *;split at q
    · exact h _ _ q
    · exact q
  · unfold inS3 at q;split at q
    · cases zW (zi wa).rd;cases zW (zi wb).rd
      exact⟨_,_,rfl,rfl,q _ G H (Gr.refl s) (.sc rfl (.bl _))⟩
    · exact q.elim
def ixD:D→Int→Option D
  | .list ds,i=>atI ds i
  | .tuple ds,i=>atI ds i
  | .str z,i=>if z.length≤sizeLine then(atI z.cps.toList i).map fun c=>.str ⟨#[c]⟩ else none
  | _,_=>none
def ix3:R3:=fun a b Q=>match b with
  | .sh _ (.int i)=>a.dat=true∧∃ d,ixD a.d i=some d∧Q (a.f||zx d) d
  | _=>False
theorem zdO {K:PySem.W.Frag} {H0 G:Hp} {f:Bool} {vs:List V} {ds:List D} {i:Int} {d:D} (r:Rfs K H0 G f vs ds) (h:atI ds i=some d):∃ v,atI vs i=some v∧Rf K H0 G f v d:=by
  unfold atI at *;rw [r.length];cases e:ixN ds.length i with
  | none=>rw [e] at h;cases h
  | some j=>
    rw [e] at h;obtain⟨x,hx,rx⟩:=r.get (i:=j) (show ds[j]?=some d from h)
    exact⟨x,hx,rx⟩
theorem IxR.imp {r r':R2} (h:IxR X r) (i:∀ x y H Q,r' x y H Q→r x y H Q):IxR X r':=fun e f pins s σ H x y v u Q I rx ry q z=>h e f pins s σ H x y v u Q I rx ry (i _ _ _ _ q) z
theorem zkk (H0:Hp):IxR X (zbl X.K H0 ix3):=IxR.imp zoG fun x y H Q=>el3 fun G a b s wa wb q=>by
  unfold ix3 at q;split at q
  · obtain⟨ha,d,hd,q⟩:=q
    rename_i i;cases zy (zi wb).rd;cases wa with
    | @sh v0 f d0 r=>
      cases d0 with
      | list ds=>
        obtain⟨a,xs,rfl,hq,rs⟩:=zad r;obtain⟨v,hv,rv⟩:=zdO rs (show atI ds i=some d from hd)
        exact .inl ⟨_,_,_,v,rfl,rfl,s.seq hq,hv,q v G H (Gr.refl s) rv.or⟩
      | tuple ds=>
        obtain⟨a,xs,rfl,hq,rs⟩:=Zl r;obtain⟨v,hv,rv⟩:=zdO rs (show atI ds i=some d from hd)
        exact .inr (.inl ⟨_,_,_,v,rfl,rfl,s.tup hq,hv,q v G H (Gr.refl s) rv.or⟩)
      | str z=>
        cases zW r.rd
        have hd':(if z.length≤sizeLine then(atI z.cps.toList i).map fun c=>PyData.str ⟨#[c]⟩ else none)=some d:=hd
        split at hd'
        · rename_i hz
          cases e:atI z.cps.toList i with
          | none=>rw [e] at hd';cases hd'
          | some c=>
            rw [e] at hd';cases hd';exact .inr (.inr ⟨z,i,c,rfl,rfl,hz,e,q _ G H (Gr.refl s) (.sc rfl (.str _))⟩)
        · cases hd'
      | _=>cases hd
    | ow h rs n=>
      obtain⟨v,hv,rv⟩:=zdO rs (show atI _ i=some d from hd)
      exact .inl ⟨_,_,_,v,rfl,rfl,SqL.of h,hv,q v G H (Gr.refl s) rv.or⟩
    | _=>cases ha
  · exact q.elim
theorem zf3:∀ a b (Q Q':Bool→D→Prop),(∀ f c,Q f c→Q' f c)→ix3 a b Q→ix3 a b Q':=fun a b Q Q' h q=>by
  unfold ix3 at *;split at q
  · obtain⟨x,d,e,q⟩:=q;exact⟨x,d,e,h _ _ q⟩
  · exact q
theorem at3 {H0:Hp} {a b:Expr} {pos:Pos} {ta tb:TE3} (ha:PE3 X H0 a ta) (hb:PE3 X H0 b tb) (hs:JA b):PE3 X H0 (.Subscript a b pos) (o3 ix3 ta tb):=
  ⟨za3 zf3 ha.mono hb.mono,PE.imp (zaj (zkk H0) ha.ok hb.ok hs) (zbA zf3 ha.mono hb.mono)⟩
abbrev TO3:=Env3→(Option Int→Prop)→Prop
def zin (K:PySem.W.Frag) (H0:Hp) (t:TO3):TO:=fun σ H Q=>∃ G0 ρ G,Fr3 K H0 G0 ρ σ G H∧t ρ fun o=>∀ G' H',Gr G H G' H'→Q o H'
structure PO3 (X:Cx) (H0:Hp) (e:Option Expr) (t:TO3):Prop where
  mono:∀ ρ (Q Q':Option Int→Prop),(∀ c,Q c→Q' c)→t ρ Q→t ρ Q'
  ok:PO X e (zin X.K H0 t)
theorem PO.imp {e:Option Expr} {t t':TO} (h:PO X e t) (i:∀ σ H Q,t' σ H Q→t σ H Q):PO X e t':=fun pins s σ H Q I q=>h pins s σ H Q I (i _ _ _ q)
def no3:TO3:=fun _ Q=>Q none
def zaP (t:TE3):TO3:=fun ρ Q=>t ρ fun c=>∃ i,c=.sh true (.int i)∧Q (some i)
variable {H0:Hp} {pos p2:Pos}
theorem Zj:PO3 X H0 none no3:=⟨fun ρ Q Q' h q=>h _ q,PO.imp zlY fun σ H Q=>el5 fun G0 ρ G F q=>q G H (Gr.refl F.sub)⟩
theorem Zk {e:Expr} {t:TE3} (h:PE3 X H0 e t):PO3 X H0 (some e) (zaP t):=⟨fun ρ Q Q' hq q=>h.mono ρ _ _ (fun c ⟨i,e,q⟩=>⟨i,e,hq _ q⟩) q,PO.imp (ziv h.ok) fun σ H Q=>el5 fun G0 ρ G F q=>⟨G0,ρ,G,F,h.mono ρ _ _ (fun c hyp v G' H' g w=>by
  obtain⟨i,e,q⟩:=hyp;subst e;exact⟨i,zy (zi w).rd,q G' H' g⟩) q⟩⟩
def cut {α : Type} (xs:List α) (lo hi:Option Int):List α:=(xs.drop (HT.sIx xs.length 0 lo)).take (HT.sIx xs.length xs.length hi - HT.sIx xs.length 0 lo)
def slL3 (te:TE3) (tl th:TO3):TN3:=fun ρ Q=>te ρ fun c=>tl ρ fun l=>th ρ fun u=>match c with
  | .sh f (.list ds)=>Q (f||ds.all zx) (cut ds l u)
  | .ow f ds=>Q (f||ds.all zx) (cut ds l u)
  | _=>False
theorem zft {K:PySem.W.Frag} {H0 G:Hp} {f:Bool} {vs:List V} {ds:List D} (r:Rfs K H0 G f vs ds) (lo hi:Option Int):Rfs K H0 G f (cutV vs lo hi) (cut ds lo hi):=by
  unfold cutV cut;rw [r.length];exact(r.drop _).take _
theorem ziW {e:Expr} {lo hi:Option Expr} {te:TE3} {tl th:TO3} (he:PE3 X H0 e te) (hl:PO3 X H0 lo tl) (hh:PO3 X H0 hi th):PN3 X H0 (.Subscript e (.Slice lo hi none p2) pos) (slL3 te tl th):=by
  refine⟨fun ρ Q Q' h q=>he.mono ρ _ _ (fun c=>hl.mono ρ _ _ fun l=>hh.mono ρ _ _ fun u q=>?_) q,PE.imp (zhH zk2 he.ok hl.ok hh.ok) fun σ H Q=>el5 fun G0 ρ G F q=>?_⟩
  · split at q
    · exact h _ _ q
    · exact h _ _ q
    · exact q
  · refine⟨G0,ρ,G,F,he.mono ρ _ _ (fun c qc v G1 H1 g1 w1=>⟨G0,ρ,G1,F.gr g1,hl.mono ρ _ _ (fun l ql G2 H2 g2=>⟨G0,ρ,G2,F.gr (g1.trans g2),hh.mono ρ _ _ (fun u qu G3 H3 g3=>?_) ql⟩) qc⟩) q⟩
    have w3:=(w1.gr g2).gr g3;have gg:=(g1.trans g2).trans g3
    split at qu
    · obtain⟨a,xs,rfl,hq,rs⟩:=zad (zi w3)
      exact⟨a,xs,rfl,g3.sub.seq hq,fun p hp=>qu p _ G3 H3 gg hp (zft rs.or _ _)⟩
    · cases w3 with
      | ow h rs n=>exact⟨_,_,rfl,SqL.of h,fun p hp=>qu p _ G3 H3 gg hp (zft rs.or _ _)⟩
    · exact qu.elim
def lenD:D→Option Nat
  | .list ds=>some ds.length
  | .tuple ds=>some ds.length
  | .str z=>if z.length≤sizeLine then some z.length else none
  | _=>none
def len3:C3:=fun cs Q=>match cs with
  | [c]=>c.dat=true∧∃ n,lenD c.d=some n∧Q true (.int n)
  | _=>False
theorem zL:CallOk X (.builtin "len") len3:=by
  refine⟨fun cs Q Q' h q=>?_,fun H0=>zC.imp (zC.or ze6 znU) fun xs H Q=>el2 fun G cs s w q=>?_⟩
  · unfold len3 at *;split at q
    · obtain⟨a,n,e,q⟩:=q;exact⟨a,n,e,h _ _ q⟩
    · exact q
  · unfold len3 at q;split at q
    · obtain⟨v,rfl,w1⟩:=vws1 w
      obtain⟨ha,n,hn,q⟩:=q;have r:=w1.rd s ha;generalize e:Cl.d _=d at r hn;cases r with
      | lst hq rs=>cases hn;exact .inl ⟨_,_,rfl,.inl hq,by rw [rs.length];exact q _ G H (Gr.refl s) (.sc rfl (.int _))⟩
      | tup hq rs=>cases hn;exact .inl ⟨_,_,rfl,.inr hq,by rw [rs.length];exact q _ G H (Gr.refl s) (.sc rfl (.int _))⟩
      | str z=>
        have hn':(if z.length≤sizeLine then some z.length else none)=some n:=hn
        split at hn'
        · rename_i hz;cases hn';exact .inr ⟨z,rfl,hz,q _ G H (Gr.refl s) (.sc rfl (.int _))⟩
        · cases hn'
      | _=>cases hn
    · exact q.elim
def abs3:C3:=fun cs Q=>match cs with
  | [.sh _ (.int i)]=>Q true (.int (if i<0 then -i else i))
  | _=>False
theorem zgS:CallOk X (.builtin "abs") abs3:=by
  refine⟨fun cs Q Q' h q=>?_,fun H0=>zC.imp zlm fun xs H Q=>el2 fun G cs s w q=>?_⟩
  · unfold abs3 at *;split at q
    · exact h _ _ q
    · exact q
  · unfold abs3 at q;split at q
    · obtain⟨v,rfl,w1⟩:=vws1 w
      cases zy (zi w1).rd
      exact⟨_,rfl,q _ G H (Gr.refl s) (.sc rfl (.int _))⟩
    · exact q.elim
def max23:C3:=fun cs Q=>match cs with
  | [.sh _ (.int i),.sh _ (.int j)]=>Q true (.int (if j > i then j else i))
  | _=>False
theorem zlt (hc:X.calm=true):CallOk X (.builtin "max") max23:=by
  refine⟨fun cs Q Q' h q=>?_,fun H0=>zC.imp (zmR hc) fun xs H Q=>el2 fun G cs s w q=>?_⟩
  · unfold max23 at *;split at q
    · exact h _ _ q
    · exact q
  · unfold max23 at q;split at q
    · obtain⟨v,u,rfl,w1,w2⟩:=vws2 w
      cases zy (zi w1).rd;cases zy (zi w2).rd
      exact⟨_,_,rfl,q _ G H (Gr.refl s) (.sc rfl (.int _))⟩
    · exact q.elim
def min23:C3:=fun cs Q=>match cs with
  | [.sh _ (.int i),.sh _ (.int j)]=>Q true (.int (if j<i then j else i))
  | _=>False
theorem zfN (hc:X.calm=true):CallOk X (.builtin "min") min23:=by
  refine⟨fun cs Q Q' h q=>?_,fun H0=>zC.imp (znQ hc) fun xs H Q=>el2 fun G cs s w q=>?_⟩
  · unfold min23 at *;split at q
    · exact h _ _ q
    · exact q
  · unfold min23 at q;split at q
    · obtain⟨v,u,rfl,w1,w2⟩:=vws2 w
      cases zy (zi w1).rd;cases zy (zi w2).rd
      exact⟨_,_,rfl,q _ G H (Gr.refl s) (.sc rfl (.int _))⟩
    · exact q.elim
def strI3:C3:=fun cs Q=>match cs with
  | [.sh _ (.int i)]=>i.natAbs.log2<1920∧Q true (.str (toString i))
  | _=>False
theorem ji:CallOk X (.type "str") strI3:=by
  refine⟨fun cs Q Q' h q=>?_,fun H0=>zC.imp zkX fun xs H Q=>el2 fun G cs s w q=>?_⟩
  · unfold strI3 at *;split at q
    · exact⟨q.1,h _ _ q.2⟩
    · exact q
  · unfold strI3 at q;split at q
    · obtain⟨v,rfl,w1⟩:=vws1 w
      cases zy (zi w1).rd
      exact⟨_,rfl,q.1,q.2 _ G H (Gr.refl s) (.sc rfl (.str _))⟩
    · exact q.elim
end
end L3
namespace L2
open PySem PySem.Spec PyProof.Rows
def Itx (x:Str):It:=⟨fun i _=>i<x.cps.size,fun i H v H'=>H'=H∧∃ c,x.cps[i]?=some c∧v=.str ⟨#[c]⟩,fun i _=>x.cps.size=i⟩
theorem zjm {P:Program} {w:World} {K:PySem.W.Frag} {nm:Str} {np:Pos} {x:Str} {it:Addr} {S:Nat→Heap→Prop} (W:∀ A':Around,A'.handled=none→Walks P w A' it [it] [it] x.cps.size (SignAt x) S) (hobj:∀ i h,S i h→∃ o,h.get? it=some o∧∀ v,o.data≠.cell v)
    (fr:∀ i h h',S i h→(∀ b∈[it],∀ o,h.get? b=some o→h'.get? b=some o)→S i h') (sf:∀ (A:Around) (i:Nat) (s:Shared) (Q:Value→Shared→Prop) (E:Value→Shared→Prop),S i s.heap→Q (.ref it) s→wpAny (model P w) A (pyIter (.ref it)) Q E s) :
    Turn P w K (.Name nm np) (Itx x) [it] it S where
  mem:=by simp
  obj:=fun i h st b hb=>by
    have e:b=it:=by simpa using hb
    subst e;exact hobj i h st
  keep:=fun i h h' st kk=>fr i h h' st kk
  item:=by
    intro X hP hw hK hc i pins s σ H E I hf st hg;subst hP hw hK;refine(W X.A (I.ok.hd hc)).item i s _ _ hg st fun v h' tk ⟨c,u,hcx,e⟩ st' kp=>⟨v,rfl,?_⟩
    subst e;exact wpAny_pure ⟨.str ⟨#[c]⟩,H,I.turnedL (ch:=[it]) kp hf,⟨u,rfl⟩,⟨rfl,c,hcx,rfl⟩,st',fun b hb=>(hf b hb).1⟩
  done:=by
    intro X hP hw hK hc i pins s σ H E I hf st hg;subst hP hw hK;have hi:x.cps.size=i:=hg;subst hi;exact(W X.A (I.ok.hd hc)).done s _ _ st fun h' tk kp=>⟨rfl,I.turnedL (ch:=[it]) kp hf⟩
  self:=sf
def iStr (te:TE):TI:=fun σ H R=>te σ H fun v H1=>∃ x,v=.str x∧R (Itx x) H1
theorem zl5 {X:Cx} {nm:Str} {np:Pos} {e:Expr} {te:TE} (he:PE X e te):PI X (.Name nm np) e (iStr te):=by
  intro pins s σ H R I h;refine thn (he pins s σ H _ I h) fun v s1 hyp=>?_
  obtain⟨v',H1,I1,r1,x,e1,q⟩:=hyp;subst e1;obtain⟨t,rfl⟩:=r1;have fin:∀ (n:String) (o:Obj),o = { cls:=.type n,data:=.fields #[.str x t,.int 0 0] }→(∀ A':Around,A'.handled=none→Walks X.prog X.w A' s1.heap.objs.size [s1.heap.objs.size] [s1.heap.objs.size] x.cps.size (SignAt x) (fun i h=>h.IsStrIter s1.heap.objs.size n x t i))→
      (∀ (A:Around) (i:Nat) (s:Shared) (Q:Value→Shared→Prop) (E:Value→Shared→Prop),s.heap.IsStrIter s1.heap.objs.size n x t i→Q (.ref s1.heap.objs.size) s→wpAny (model X.prog X.w) A (pyIter (.ref s1.heap.objs.size)) Q E s)→
      PIE X pins σ (.Name nm np) R (.ref s1.heap.objs.size) { s1 with heap:=s1.heap.push o }:=fun n o eo W sf=>by
    subst eo;have I2:Inv X pins σ H1 { s1 with heap:=s1.heap.push { cls:=.type n,data:=.fields #[.str x t,.int 0 0] } }:=I1.kept (t':=s1.toks) fun b u q=>Heap.get?_push_of_some _ q
    refine⟨_,[s1.heap.objs.size],_,Itx x,H1,rfl,I2,zjm W (fun i h ⟨o,ho,hc,hd⟩=>⟨o,ho,fun v z=>by rw [hd] at z;cases z⟩) (fun i h h' ⟨o,ho,r⟩ kk=>⟨o,kk _ (by simp) o ho,r⟩) sf,⟨_,Heap.get?_push_size _ rfl,rfl,rfl⟩,fun b hb=>?_,q⟩
    have e:b=s1.heap.objs.size:=by simpa using hb
    subst e;exact I1.fpOk (Nat.le_refl _) (I1.hok.fresh (Nat.le_refl _))
  cases ha:x.cps.all (· < 128)
  · exact wpAny_pyIter_wide ha (fin _ _ rfl (fun A' hA=>Walks.strWide hA _ x t) (fun A i s Q E st h=>wpAny_pyIter_striter_wide st h))
  · exact wpAny_pyIter_ascii ha (fin _ _ rfl (fun A' hA=>Walks.strAscii hA _ x t) (fun A i s Q E st h=>wpAny_pyIter_striter_ascii st h))
section
variable {X:Cx}
theorem zjW {us:List Value} {ns:List Int} (h:IntsAre us ns):∃ xs:Array (Int×Tok),us.toArray=intItems xs∧xs.toList.map (·.1)=ns:=by
  obtain⟨xs,e⟩:=h.allInts.items;refine⟨xs,e,?_⟩;have e1:=h.numsOf;have e2:us=xs.toList.map fun p=>Value.int p.1 p.2:=by
    have:=congrArg Array.toList e
    simpa [intItems] using this
  rw [e2,numsOf_map] at e1;exact e1
theorem zi5 (hc:X.calm=true):zC X (.builtin "sum") (fun xs H Q=>∃ (p:Addr) (ns:List Int),xs=[.ref p]∧SqL X.K H p (ns.map V.int)∧Q (.int ns.sum) H):=by
  intro pins s σ H xs us Q I r h;obtain⟨p,ns,rfl,hq,q⟩:=h;obtain⟨u,rfl,ru⟩:=jO r;cases(show u=Value.ref p from ru)
  obtain⟨its,rv,pl,_⟩:=I.list hq;obtain⟨ys,e1,e2⟩:=zjW (znk rv);have hl:=pl.isList;rw [e1] at hl;refine sum_intListG (I.ok.hd hc) hl fun h' tk t' kp=>⟨.int ns.sum,H,I.kept (t':=tk) kp,⟨t',?_⟩,q⟩
  rw [preSum_eq,List.take_of_length_le (by simp),e2]
def isD:PyData→String→Option Bool
  | .int _,n=>if n = "int" then some true else if n = "bool" then some false else none
  | .tuple _,n=>if n = "tuple" then some true else none
  | .list _,n=>if n = "list" then some true else none
  | .str _,n=>if n = "str" then some true else none
  | .bool _,n=>if n = "bool" then some true else none
  | _,_=>none
def tyD:PyData→String
  | .int _=>"int"
  | .tuple _=>"tuple"
  | .list _=>"list"
  | .str _=>"str"
  | .bool _=>"bool"
  | _=>"NoneType"
theorem zmt {d:PyData} {n:String} {b:Bool} (h:isD d n=some b):isB (tyD d) n=some b:=by
  unfold isD at h
  split at h
  · split at h
    · rename_i e;subst e;cases h;rfl
    · split at h
      · rename_i e;subst e;cases h;rfl
      · cases h
  all_goals first
    | (split at h
       · rename_i e;subst e;cases h;rfl
       · cases h)
    | cases h
theorem zjw:zC X (.builtin "isinstance") (fun xs H Q=>∃ x n d b,xs=[x,.ty n]∧RdV X.K H x d∧isD d n=some b∧Q (.bl b) H):=by
  intro pins s σ H xs us Q I r h;obtain⟨x,n,d,b,rfl,rd,hb,q⟩:=h;obtain⟨u,c,rfl,rx,rc⟩:=zcI r;cases(show c=Value.type n from rc)
  have e:=zic (K:=X.K) (zmt hb);have fin:∀ tk,EP X pins σ Q (.bool b) { s with toks:=tk }:=fun tk=>⟨.bl b,H,I.tok tk,rfl,q⟩
  cases rd with
  | non=>cases hb
  | bl y=>cases(show u=Value.bool y from rx);exact PySem.W.kia_one PySem.W.kitx_bool I.kIn True.intro e (fun z=>nomatch z) fin
  | int i=>obtain⟨t,q⟩:=(show ∃ t,u=Value.int i t from rx);cases q;exact PySem.W.kia_one PySem.W.kitx_int I.kIn True.intro e (fun z=>nomatch z) fin
  | str y=>obtain⟨t,q⟩:=(show ∃ t,u=Value.str y t from rx);cases q;exact PySem.W.kia_one PySem.W.kitx_str I.kIn True.intro e (fun z=>nomatch z) fin
  | lst hq rs=>
    cases rx;obtain⟨its,rv,⟨o,n,ho,hc,_,hd⟩,_⟩:=I.list hq
    exact PySem.W.kia_one PySem.W.kitx_list I.kIn ⟨o,ho,hc⟩ e (fun z=>nomatch z) fin
  | tup hq rs=>
    cases rx;obtain⟨its,rv,⟨o,ho,hc,n,hd⟩,_⟩:=I.tuple hq
    exact PySem.W.kia_one PySem.W.kitx_tuple I.kIn ⟨o,ho,hc⟩ e (fun z=>nomatch z) fin
end
section
variable {X:Cx}
theorem zf7:∀ {bs:List Bool} {us:List Value},Vals (bs.map V.bl) us→us=bs.map Value.bool
  | [],_,.nil=>rfl
  | b :: bs, _, .cons r t => by
    have e:=zf7 (bs:=bs) t;rw [e];cases(show _=Value.bool b from r)
    rfl
theorem zmI (bs:List Bool):((List.range bs.length).all fun i=>bs.getD i false)=bs.all id:=by
  rw [Bool.eq_iff_iff,List.all_eq_true,List.all_eq_true]
  constructor
  · intro h b hb
    obtain⟨i,hi,rfl⟩:=List.mem_iff_getElem.mp hb;have:=h i (List.mem_range.mpr hi);rw [List.getD_eq_getElem?_getD,List.getElem?_eq_getElem hi] at this;exact this
  · intro h i hi
    have hi':=List.mem_range.mp hi;rw [List.getD_eq_getElem?_getD,List.getElem?_eq_getElem hi'];exact h _ (List.getElem_mem hi')
theorem zkA (hc:X.calm=true):zC X (.builtin "all") (fun xs H Q=>∃ (p:Addr) (bs:List Bool),xs=[.ref p]∧SqL X.K H p (bs.map V.bl)∧Q (.bl (bs.all id)) H):=by
  intro pins s σ H xs us Q I r h;obtain⟨p,bs,rfl,hq,q⟩:=h;obtain⟨u,rfl,ru⟩:=jO r;cases(show u=Value.ref p from ru)
  obtain⟨its,rv,pl,_⟩:=I.list hq;cases zf7 rv;have hl:=pl.isList;have hlt:p<s.heap.objs.size:=by obtain⟨_,e,_⟩:=hl;exact Heap.lt_size e
  refine call_all_walk (wpAny_pyIter_list hl ⟨_,_,_,_,_,_,fun i=>bs.getD i false,rfl,Walks.list (A:=X.A.in1) (I.ok.hd hc) _ p (Nat.ne_of_lt hlt) _,⟨⟨_,Heap.get?_push_size _ rfl,rfl,rfl⟩,hl.push _⟩,fun i v s' Q' E' hP hQ=>?_,fun h' tk kp=>?_⟩)
  · have e:(bs.map Value.bool)[i]?=some v:=by simpa using hP
    rw [List.getElem?_map] at e;cases eb:bs[i]? with
    | none=>rw [eb] at e;cases e
    | some b=>
      rw [eb] at e;cases e;have:bs.getD i false=b:=by rw [List.getD_eq_getElem?_getD,eb];rfl
      have hQ':Q' (bs.getD i false) s':=hQ;rw [this] at hQ';exact wpAny_truthy_bool hQ'
  · refine⟨.bl (bs.all id),H,I.kept (t':=tk) (old_kept kp),?_,q⟩
    show Value.bool _=Value.bool _
    rw [show(bs.map Value.bool).toArray.size=bs.length by simp,zmI]
end
end L2
namespace L3
open PySem PySem.Spec PyProof.Rows L2
variable [LamW]
section
variable {X:Cx} {H0:Hp} {pos p:Pos} {e:Expr}
def Jv:List D→Option (List Int)
  | []=>some []
  | .int i::r=>(Jv r).map (i :: ·)
  | _::_=>none
def Jx:List D→Option (List Bool)
  | []=>some []
  | .bool i::r=>(Jx r).map (i :: ·)
  | _::_=>none
theorem JN (ns:List Int):Jv (ns.map .int)=some ns:=by
  induction ns with
  | nil=>rfl
  | cons a r ih=>simp [Jv,ih]
theorem zjo (ns:List Bool):Jx (ns.map .bool)=some ns:=by
  induction ns with
  | nil=>rfl
  | cons a r ih=>simp [Jx,ih]
theorem zix {K:PySem.W.Frag} {G:Hp} {vs:List V} {ds:List D} {ns:List Int} (r:RdVs K G vs ds) (e:Jv ds=some ns):vs=ns.map V.int:=by
  induction vs generalizing ds ns with
  | nil=>cases r;cases e;rfl
  | cons v vs ih=>
    cases r with
    | @cons _ _ d ds a b=>
      cases d with
      | int i=>
        have e':(Jv ds).map (i :: ·)=some ns:=e;cases q:Jv ds with
        | none=>rw [q] at e';cases e'
        | some ms=>
          rw [q] at e';cases e';rw [List.map_cons,ih b q,zy a]
      | _=>cases e
theorem zjj {K:PySem.W.Frag} {G:Hp} {vs:List V} {ds:List D} {ns:List Bool} (r:RdVs K G vs ds) (e:Jx ds=some ns):vs=ns.map V.bl:=by
  induction vs generalizing ds ns with
  | nil=>cases r;cases e;rfl
  | cons v vs ih=>
    cases r with
    | @cons _ _ d ds a b=>
      cases d with
      | bool i=>
        have e':(Jx ds).map (i :: ·)=some ns:=e;cases q:Jx ds with
        | none=>rw [q] at e';cases e'
        | some ms=>
          rw [q] at e';cases e';rw [List.map_cons,ih b q,zb3 a]
      | _=>cases e
theorem Jn {K:PySem.W.Frag} {H0 G H:Hp} {v:V} {c:Cl} {ds:List D} (w:Vw K H0 G H v c) (s:Sub G H) (hd:c.dat=true) (h:c.d=.list ds):∃ a vs,v=.ref a∧SqL K H a vs∧Rfs K H0 G c.f vs ds:=by
  cases w with
  | sh r=>
    have h':_=PyData.list ds:=h;subst h';obtain⟨a,xs,rfl,hq,rs⟩:=zad r;exact⟨a,xs,rfl,s.seq hq,rs⟩
  | ow hh r n=>cases h;exact⟨_,_,rfl,SqL.of hh,r⟩
  | _=>cases hd
def sum3:C3:=fun cs Q=>match cs with
  | [c]=>c.dat=true∧∃ ds ns,c.d=.list ds∧Jv ds=some ns∧Q true (.int ns.sum)
  | _=>False
theorem zbP (hc:X.calm=true):CallOk X (.builtin "sum") sum3:=by
  refine⟨fun cs Q Q' h q=>?_,fun H0=>zC.imp (zi5 hc) fun xs H Q=>el2 fun G cs s w q=>?_⟩
  · unfold sum3 at *;split at q
    · obtain⟨a,ds,ns,h1,h2,q⟩:=q;exact⟨a,ds,ns,h1,h2,h _ _ q⟩
    · exact q
  · unfold sum3 at q;split at q
    · obtain⟨v,rfl,w1⟩:=vws1 w
      obtain⟨a,ds,ns,h1,h2,q⟩:=q;obtain⟨l,vs,rfl,hq,rs⟩:=Jn w1 s a h1;cases zix rs.rd h2;exact⟨l,ns,rfl,hq,q _ G H (Gr.refl s) (.sc rfl (.int _))⟩
    · exact q.elim
def all3:C3:=fun cs Q=>match cs with
  | [c]=>c.dat=true∧∃ ds bs,c.d=.list ds∧Jx ds=some bs∧Q true (.bool (bs.all id))
  | _=>False
theorem zis (hc:X.calm=true):CallOk X (.builtin "all") all3:=by
  refine⟨fun cs Q Q' h q=>?_,fun H0=>zC.imp (zkA hc) fun xs H Q=>el2 fun G cs s w q=>?_⟩
  · unfold all3 at *;split at q
    · obtain⟨a,ds,ns,h1,h2,q⟩:=q;exact⟨a,ds,ns,h1,h2,h _ _ q⟩
    · exact q
  · unfold all3 at q;split at q
    · obtain⟨v,rfl,w1⟩:=vws1 w
      obtain⟨a,ds,ns,h1,h2,q⟩:=q;obtain⟨l,vs,rfl,hq,rs⟩:=Jn w1 s a h1;cases zjj rs.rd h2;exact⟨l,ns,rfl,hq,q _ G H (Gr.refl s) (.sc rfl (.bl _))⟩
    · exact q.elim
def Z9 (t:TA3):TN3:=fun ρ Q=>t ρ fun cs=>∃ c ds,cs=[c]∧c.dat=true∧(c.d=.list ds∨c.d=.tuple ds)∧Q (c.f||ds.all zx) ds
theorem zgK {x:Str} {es:List Expr} {t:TA3} (hg:Gl X x) (hm:X.mg x=none) (hv:bootBuiltins x=some (.type "list")) (ha:PA3 X H0 (e::es) t) (hn:x≠"__name__":=by decide) (hdb:(x==("__debug__" : Str))=false:=by decide)
    (he:starEach (e::es) X.env=(false,eval e X.env)::starEach es X.env:=by rfl) (hpl:(backTo pos (starEach es X.env)).any (·.1)=false:=by rfl):PN3 X H0 (.Call (.Name x p) (e::es) [] pos) (Z9 t):=
  ⟨fun ρ Q Q' h q=>ha.mono ρ _ _ (fun cs ⟨c,ds,a,b,d,q⟩=>⟨c,ds,a,b,d,h _ _ q⟩) q,PE.imp (zeU zoz hg hm hv ha.ok hn hdb he hpl) fun σ H Q=>el5 fun G0 ρ G F q=>⟨G0,ρ,G,F,ha.mono ρ _ _ (fun cs hyp vs G1 H1 g1 w=>by
    obtain⟨c,ds,a,b,d,k⟩:=hyp;subst a;obtain⟨v,rfl,w1⟩:=vws1 w
    rcases d with d|d
    · obtain⟨l,us,rfl,hq,rs⟩:=Jn w1 g1.sub b d
      exact⟨l,us,rfl,.inl hq,fun l' hl=>k l' us G1 H1 g1 hl rs.or⟩
    · cases w1 with
      | sh r=>
        have d':_=PyData.tuple ds:=d;subst d';obtain⟨l,us,rfl,hq,rs⟩:=Zl r;exact⟨l,us,rfl,.inr (g1.sub.tup hq),fun l' hl=>k l' us G1 H1 g1 hl rs.or⟩
      | ow _ _ _=>cases d
      | _=>cases b) q⟩⟩
def catN (ta tb:TE3):TN3:=fun ρ Q=>ta ρ fun a=>tb ρ fun b=>∃ ds es,a.dat=true∧b.dat=true∧a.d=.list ds∧b.d=.list es∧ds.length+es.length≤sizeLine∧Q ((a.f||ds.all zx)&&(b.f||es.all zx)) (ds++es)
theorem zjs:OpR X (binaryOp .Add) (fun x y H Q=>∃ l b xs zs,x=.ref l∧y=.ref b∧SqL X.K H l xs∧SqL X.K H b zs∧xs.length+zs.length≤sizeLine∧∀ p,H p=none→Q (.ref p) (upd H p (.lst (xs++zs)))):=by
  intro pins s σ H x y v u Q I rx ry h;obtain⟨l,b,xs,zs,rfl,rfl,hl,hb,hz,k⟩:=h;cases rx;cases ry;obtain⟨its,rv,pl,_⟩:=I.list hl;obtain⟨its',rv',pl',_⟩:=I.list hb;obtain⟨⟨cls,dd,data,sl⟩,ho,hc,n,hd⟩:=pl.isList;obtain⟨⟨cls2,dd2,data2,sl2⟩,ho2,hc2,n2,hd2⟩:=pl'.isList;simp only at hc hd hc2 hd2;subst hc hd hc2 hd2;have e:its.toArray++its'.toArray=(its++its').toArray:=by simp
  refine concat_meets ⟨_,ho,rfl⟩ ⟨_,ho2,rfl⟩ noFill_list_add seq_list_add PySem.F.slot_list_add PySem.F.entry_list_add (PySem.F.args_list_add_2 _ _) (list_addW l b its.toArray its'.toArray n n2 dd dd2 sl sl2 (by rw [List.size_toArray,List.size_toArray,←rv.length,←rv'.length];exact hz)) ⟨ho,ho2,?_⟩
  rw [e];exact⟨.ref _,_,I.lnew (t':=s.toks) (rv.append rv') (by rw [List.length_append];exact hz),rfl,k _ I.fresh⟩
theorem cat3 {a b:Expr} {ta tb:TE3} (ha:PE3 X H0 a ta) (hb:PE3 X H0 b tb):PN3 X H0 (.BinOp a .Add b pos) (catN ta tb):=
  ⟨fun ρ Q Q' h q=>ha.mono ρ _ _ (fun a=>hb.mono ρ _ _ fun b ⟨ds,es,h1,h2,h3,h4,h5,q⟩=>⟨ds,es,h1,h2,h3,h4,h5,h _ _ q⟩) q,PE.imp (zdg zjs ha.ok hb.ok) fun σ H Q=>el5 fun G0 ρ G F q=>⟨G0,ρ,G,F,ha.mono ρ _ _ (fun a qa v1 G1 H1 g1 w1=>⟨G0,ρ,G1,F.gr g1,hb.mono ρ _ _ (fun b hyp v2 G2 H2 g2 w2=>by
    obtain⟨ds,es,h1,h2,h3,h4,h5,k⟩:=hyp;obtain⟨l,us,rfl,hq,rs⟩:=Jn (w1.gr g2) g2.sub h1 h3;obtain⟨m,us',rfl,hq',rs'⟩:=Jn w2 g2.sub h2 h4;exact⟨l,m,us,us',rfl,rfl,hq,hq',by rw [rs.length,rs'.length];exact h5,fun p hp=>k p _ G2 H2 (g1.trans g2) hp (rs.or.append rs'.or)⟩) qa⟩) q⟩⟩
def zaK (n:String) (te:TE3):TE3:=fun ρ Q=>te ρ fun c=>∃ b,c.dat=true∧L2.isD c.d n=some b∧Q (.sh true (.bool b))
theorem zdb {nf:Str} {n:String} {x:Str} {p2:Pos} {te:TE3} (hg:Gl X nf) (hm:X.mg nf=none) (hnf:nf = "isinstance") (hg2:Gl X x) (hm2:X.mg x=none) (hv:bootBuiltins x=some (.type n)) (he:PE3 X H0 e te) (hn:x≠"__name__":=by decide)
    (h1:starEach [e,.Name x p2] X.env=(false,eval e X.env)::starEach [.Name x p2] X.env:=by rfl) (h2:starEach [.Name x p2] X.env=(false,eval (.Name x p2) X.env)::starEach [] X.env:=by rfl)
    (hpl:(backTo pos (starEach [.Name x p2] X.env)).any (·.1)=false:=by rfl) (hdx:(x==("__debug__" : Str))=false:=by decide):PE3 X H0 (.Call (.Name nf p) [e,.Name x p2] [] pos) (zaK n te):=by
  subst hnf;exact⟨fun ρ Q Q' h q=>he.mono ρ _ _ (fun c ⟨b,a,d,q⟩=>⟨b,a,d,h _ q⟩) q,PE.imp (zcB (x:="isinstance") zjw hg hm zm2 (zR he.ok (zR (zkq (v:=.ty n) hg2 hm2 hv rfl hn hdx) zQ h2) h1) (by decide) (by decide) h1 hpl) fun σ H Q=>el5 fun G0 ρ G F q=>⟨G0,ρ,G,F,he.mono ρ _ _ (fun c ⟨b,hd,hb,k⟩ v G1 H1 g1 w=>
    ⟨v,n,c.d,b,rfl,w.rd g1.sub hd,hb,k _ G1 H1 g1 (.sh (.sc rfl (.bl b)))⟩) q⟩⟩
def signs (x:Str):List D:=x.cps.toList.map fun c=>.str ⟨#[c]⟩
def itS (te:TE3):TI3:=fun ρ Q=>te ρ fun c=>∃ x,c=.sh true (.str x)∧Q true (signs x)
theorem zk3 {K:PySem.W.Frag} {H0 G:Hp} {x:Str}:ItOk K H0 (Itx x) true (signs x) G where
  go:=fun i d G' H hd s1 s2=>by
    unfold signs at hd;rw [List.getElem?_map,Array.getElem?_toList] at hd;cases e:x.cps[i]? with
    | none=>rw [e] at hd;cases hd
    | some c=>
      rw [e] at hd;cases hd;refine⟨(Array.getElem?_eq_some_iff.mp e).1,fun v H' ⟨e1,c',e2,e3⟩=>?_⟩
      subst e1 e3;rw [e] at e2;cases e2;exact⟨G',Gr.refl s2,.sc rfl (.str _)⟩
  stop:=fun i G' H hl s1 s2=>by
    show x.cps.size=i
    unfold signs at hl
    simp at hl;exact hl.symm
theorem zhw {nm:Str} {np:Pos} {te:TE3} (he:PE3 X H0 e te):PI3 X H0 (.Name nm np) e (itS te):=
  ⟨fun ρ Q Q' h q=>he.mono ρ _ _ (fun c ⟨x,e,q⟩=>⟨x,e,h _ _ q⟩) q,PI.imp (zl5 he.ok) fun σ H R=>el5 fun G0 ρ G F q=>⟨G0,ρ,G,F,he.mono ρ _ _ (fun c hyp v G' H' g w=>by
    obtain⟨x,e,k⟩:=hyp;subst e;exact⟨x,zW (zi w).rd,k _ G' H' g zk3⟩) q⟩⟩
end
variable [LamW]
theorem znM {P:Program} {w:World} {X:Cx}:Passes (CXR P w) X (fun _ _ _=>False):=fun _ _ _ _ _ _ _ ⟨_,_,_,_,_,h⟩=>h.elim
section
variable {X:Cx} {H0:Hp} {pos:Pos} {x:Str}
theorem g3i {i:Int} (hg:Gl X x) (hm:∃ t,X.mg x=some (.int i t)) (hd:(x==("__debug__" : Str))=false:=by decide):PE3 X H0 (.Name x pos) (k3 (.int i)):=by
  obtain⟨t,hm⟩:=hm;exact g3 (v:=.int i) hg hm ⟨t,rfl⟩ (fun _=>.int i) rfl hd
theorem g3s {i:Str} (hg:Gl X x) (hm:∃ t,X.mg x=some (.str i t)) (hd:(x==("__debug__" : Str))=false:=by decide):PE3 X H0 (.Name x pos) (k3 (.str i)):=by
  obtain⟨t,hm⟩:=hm;exact g3 (v:=.str i) hg hm ⟨t,rfl⟩ (fun _=>.str i) rfl hd
end
theorem sz {n:Nat} (h:n≤1000000):n≤sizeLine:=Nat.le_trans h (by decide)
theorem sz0:(0≤sizeLine)=True:=eq_true (by decide)
theorem sz1:(1≤sizeLine)=True:=eq_true (by decide)
theorem sz2:(2≤sizeLine)=True:=eq_true (by decide)
theorem sz3:(3≤sizeLine)=True:=eq_true (by decide)
theorem sz4:(4≤sizeLine)=True:=eq_true (by decide)
theorem sz7:(7≤sizeLine)=True:=eq_true (by decide)
theorem sz9:(9≤sizeLine)=True:=eq_true (by decide)
theorem zfw {K:PySem.W.Frag} {H:Hp}:∀ ns:List Int,RdVs K H (ns.map V.int) (ns.map PyData.int)
  | []=>.nil
  | a::r=>.cons (.int a) (zfw r)
theorem zcA {g:TG3} {tb:TS3} {A:Ends3} {f:Bool} (P:List D→Env3→Prop) (s:∀ d ds ρ,P (d::ds) ρ→∀ W:Env3→Prop,(∀ ρ',P ds ρ'→W ρ')→g f d ρ fun ρ'=>tb { A with nx:=W,ct:=W,bk:=A.nx } ρ') (e:∀ ρ,P [] ρ→A.nx ρ):∀ ds ρ,P ds ρ→forL g tb A f ds ρ
  | [],ρ,h=>e ρ h
  | d::ds,ρ,h=>s d ds ρ h _ fun ρ' p=>zcA P s e ds ρ' p
theorem ZL {a b:TS3} {A:Ends3} {ρ : Env3} (h:∀ N:Env3→Prop,(∀ ρ',b A ρ'→N ρ')→a { A with nx:=N } ρ):seq3 a b A ρ:=h (b A) fun _ z=>z
theorem zeo {c:TT3} {tb:TS3} {A:Ends3} (P:Nat→Env3→Prop) (h:∀ n ρ,P n ρ→∀ W:Env3→Prop,(∀ m ρ',m<n→P m ρ'→W ρ')→c ρ fun k=>if k=true then tb { A with nx:=W,ct:=W,bk:=A.nx } ρ else A.nx ρ):∀ n ρ,P n ρ→whN c tb A (n+1) ρ
  | n, ρ, p => by
    have key:∀ k m ρ,m≤k→P m ρ→whN c tb A (k+1) ρ:=by
      intro k
      induction k with
      | zero=>intro m ρ hm p;exact h m ρ p _ (fun m' ρ' hlt _=>absurd hlt (by omega))
      | succ k ih=>intro m ρ hm p;exact h m ρ p _ (fun m' ρ' hlt p'=>ih m' ρ' (by omega) p')
    exact key n n ρ (Nat.le_refl _) p
variable [LamW]
theorem Jp {α : Type} {g:TG3} {tt:TT3} {te:TE3} {f:Bool} (enc out:α→D) (R:Env3→Prop):∀ (xs:List α),(∀ x∈xs,∀ ρ fa acc (K:Bool→List D→Env3→Prop),R ρ→(∀ ρ',R ρ'→K fa (acc++[out x]) ρ')→
    g f (enc x) ρ fun ρ'=>tt ρ' fun k=>if k=true then te ρ' fun c=>asS c fun fy y=>K (fa&&fy) (acc++[y]) ρ' else K fa acc ρ')→∀ fa acc ρ (Q:Bool→List D→Prop),R ρ→Q fa (acc++xs.map out)→jm g tt te f (xs.map enc) fa acc ρ Q
  | [],_,fa,acc,ρ,Q,_,q=>by show Q fa acc;simpa using q
  | x::xs,s,fa,acc,ρ,Q,hR,q=>s x List.mem_cons_self ρ fa acc (fun fa acc ρ'=>jm g tt te f (xs.map enc) fa acc ρ' Q) hR fun ρ' hR'=>
      Jp enc out R xs (fun y hy=>s y (List.mem_cons_of_mem _ hy)) fa (acc++[out x]) ρ' Q hR' (by rw [List.append_assoc];exact q)
theorem zgR {α : Type} {g:TG3} {tt:TT3} {te:TE3} {f:Bool} (enc out:α→D) (keep:α→Bool) (R:Env3→Prop):∀ (xs:List α),(∀ x∈xs,∀ ρ fa acc (K:Bool→List D→Env3→Prop),R ρ→(∀ ρ',R ρ'→K fa (if keep x=true then acc++[out x] else acc) ρ')→
    g f (enc x) ρ fun ρ'=>tt ρ' fun k=>if k=true then te ρ' fun c=>asS c fun fy y=>K (fa&&fy) (acc++[y]) ρ' else K fa acc ρ')→∀ fa acc ρ (Q:Bool→List D→Prop),R ρ→Q fa (acc++(xs.filter keep).map out)→jm g tt te f (xs.map enc) fa acc ρ Q
  | [],_,fa,acc,ρ,Q,_,q=>by show Q fa acc;simpa using q
  | x::xs,s,fa,acc,ρ,Q,hR,q=>s x List.mem_cons_self ρ fa acc (fun fa acc ρ'=>jm g tt te f (xs.map enc) fa acc ρ' Q) hR fun ρ' hR'=>
      zgR enc out keep R xs (fun y hy=>s y (List.mem_cons_of_mem _ hy)) fa _ ρ' Q hR' (by
        rw [List.filter_cons] at q;cases hk:keep x with
        | true=>rw [hk] at q;simpa using q
        | false=>rw [hk] at q;simpa using q)
end L3
namespace L3
theorem z7 {α : Type} {g:TG3} {tb:TS3} {A:Ends3} {f:Bool} (enc:α→D) (l:List α) (P:List α→Env3→Prop) (s:∀ done x rest ρ,l=done++x::rest→P done ρ→∀ W:Env3→Prop,(∀ ρ',P (done++[x]) ρ'→W ρ')→g f (enc x) ρ fun ρ'=>tb { A with nx:=W,ct:=W,bk:=A.nx } ρ') (e:∀ ρ,P l ρ→A.nx ρ) {ρ : Env3} (h:P [] ρ):forL g tb A f (l.map enc) ρ:=by
  have key:∀ rest done ρ,l=done++rest→P done ρ→forL g tb A f (rest.map enc) ρ:=by
    intro rest
    induction rest with
    | nil=>intro done ρ hl p;rw [List.append_nil] at hl;subst hl;exact e ρ p
    | cons x rest ih=>
      intro done ρ hl p;exact s done x rest ρ hl p _ fun ρ' p'=>ih (done++[x]) ρ' (by rw [hl,List.append_assoc];rfl) p'
  exact key l [] ρ rfl h
end L3
namespace L3
open PySem L2
mutual
theorem zml:∀ {d:D},PyData.canLay0 d=true→PyData.eqv d d=true
  | .none,_=>by simp [PyData.eqv]
  | .bool b,_=>by simp [PyData.eqv]
  | .int i,_=>by simp [PyData.eqv]
  | .str x,_=>by simp [PyData.eqv]
  | .list xs, h => by
    have h':PyData.canLayAll0 xs=true:=by simpa [PyData.canLay0] using h
    simpa [PyData.eqv] using eqvAll_refl h'
  | .tuple xs, h => by
    have h':PyData.canLayAll0 xs=true:=by simpa [PyData.canLay0] using h
    simpa [PyData.eqv] using eqvAll_refl h'
  | .dict _,h=>by simp [PyData.canLay0] at h
theorem eqvAll_refl:∀ {ds:List D},PyData.canLayAll0 ds=true→PyData.eqvAll ds ds=true
  | [],_=>by simp [PyData.eqvAll]
  | d :: ds, h => by
    have h':PyData.canLay0 d=true∧PyData.canLayAll0 ds=true:=by simpa [PyData.canLayAll0] using h
    simp [PyData.eqvAll,zml h'.1,eqvAll_refl h'.2]
end
def Plain (n:Nat) (d:D):Prop:=PyData.canLay0 d=true∧PyData.depth d≤n
theorem Plain.int (i:Int):Plain 0 (.int i):=⟨by simp [PyData.canLay0],by simp [PyData.depth]⟩
theorem Plain.bool (i:Bool):Plain 0 (.bool i):=⟨by simp [PyData.canLay0],by simp [PyData.depth]⟩
theorem Plain.none:Plain 0 .none:=⟨by simp [PyData.canLay0],by simp [PyData.depth]⟩
theorem zcK {n:Nat}:∀ {ds:List D},(∀ d∈ds,Plain n d)→PyData.canLayAll0 ds=true∧PyData.depthAll ds≤n
  | [],_=>by simp [PyData.canLayAll0,PyData.depthAll]
  | d :: ds, h => by
    obtain⟨h1,h2⟩:=h d List.mem_cons_self;obtain⟨h3,h4⟩:=zcK (ds:=ds) fun x hx=>h x (List.mem_cons_of_mem _ hx)
    simp [PyData.canLayAll0,PyData.depthAll,h1,h3]
    omega
theorem Plain.list {n:Nat} {ds:List D} (h:∀ d∈ds,Plain n d):Plain (n+1) (.list ds):=by
  obtain⟨h1,h2⟩:=zcK h;exact⟨by simp [PyData.canLay0,h1],by simp [PyData.depth,h2]⟩
theorem Plain.tuple {n:Nat} {ds:List D} (h:∀ d∈ds,Plain n d):Plain (n+1) (.tuple ds):=by
  obtain⟨h1,h2⟩:=zcK h;exact⟨by simp [PyData.canLay0,h1],by simp [PyData.depth,h2]⟩
theorem Plain.mono {m n:Nat} {d:D} (h:Plain m d) (hn:m≤n):Plain n d:=⟨h.1,Nat.le_trans h.2 hn⟩
theorem jD {n:Nat} {i:Int} (h0:0≤i) (h:i<n):ixN n i=some i.toNat:=by
  unfold ixN;rw [if_pos h0,if_pos h]
end L3
namespace L2
open PySem PySem.Spec PyProof.Rows
section
variable {X:Cx}
theorem zmK:zC X (.type "int") (fun xs H Q=>∃ z n,xs=[.str z]∧PySem.intText? z=some n∧z.length≤640∧Q (.int n) H):=by
  intro pins s σ H xs us Q I r h;obtain⟨z,n,rfl,hn,hl,q⟩:=h;obtain⟨u,rfl,t,rfl⟩:=jO r;exact PySem.W.KIN.call_text hn hl ⟨.int n,H,I.tok _,⟨_,rfl⟩,q⟩
def rStarts:V→List V→Hp→VK→Prop:=fun x vs H Q=>∃ a b,x=.str a∧vs=[.str b]∧Q (.bl (Txt.startswith a b)) H
theorem znR:MtM X "str.startswith" rStarts:=by
  intro pins s σ H x vs v us Q I rx rv h;obtain⟨a,b,rfl,rfl,q⟩:=h;obtain⟨t,rfl⟩:=rx;obtain⟨u,rfl,t2,rfl⟩:=rv.one;exact SC.startswith ⟨.bl _,H,I,rfl,q⟩
def rPart:V→List V→Hp→VK→Prop:=fun x vs H Q=>∃ a b,x=.str a∧vs=[.str b]∧(b.length==0)=false∧a.length≤sizeLine∧∀ p,H p=none→Q (.ref p) (upd H p (.tup [.str (Txt.partition a b).1,.str (Txt.partition a b).2.1,.str (Txt.partition a b).2.2]))
theorem zkz:MtM X "str.partition" rPart:=by
  intro pins s σ H x vs v us Q I rx rv h;obtain⟨a,b,rfl,rfl,hb,ha,q⟩:=h;obtain⟨t,rfl⟩:=rx;obtain⟨u,rfl,t2,rfl⟩:=rv.one;refine call_meets F.slot_str_partition (typeIs_str _ _ _) F.entry_str_partition (F.args_str_partition_2 _ _) (meets_str_partition a b t t2 hb ha) ?_;have fin:∀ (ta tb tc:Tok) (tk:Nat),EP X pins σ Q (.ref s.heap.objs.size) { s with heap:=s.heap.push { cls:=.type "tuple", data:=.seq [.str (Txt.partition a b).1 ta,.str (Txt.partition a b).2.1 tb,.str (Txt.partition a b).2.2 tc].toArray },toks:=tk }:=fun ta tb tc tk=>
    ⟨.ref s.heap.objs.size,_,I.laid (t':=tk) (o:=.tup [.str (Txt.partition a b).1,.str (Txt.partition a b).2.1,.str (Txt.partition a b).2.2]) (fun b ob q=>Heap.get?_push_of_some _ q) (Nat.le_refl _) ⟨(show(3:Nat)≤sizeLine by decide),_,.cons ⟨ta,rfl⟩ (.cons ⟨tb,rfl⟩ (.cons ⟨tc,rfl⟩ .nil)),IsTup.new _ _⟩,rfl,q _ (I.hok.fresh (Nat.le_refl _))⟩
  revert fin
  unfold Txt.partition;cases Builtin.Str.occurrences a b 0 a.length 1 with
  | nil=>intro fin;exact fin _ _ _ _
  | cons i r=>intro fin;exact fin _ _ _ _
def rSlS:V→Option Int→Option Int→Hp→VK→Prop:=fun x lo hi H Q=>∃ z,x=.str z∧z.length≤sizeLine∧Q (.str (Txt.slice z lo hi)) H
theorem zn4:SlR X rSlS:=by
  intro pins s σ H x v vl vu lo hi sl Q I rx hs pl pu h;obtain⟨z,rfl,hz,q⟩:=h;obtain⟨t,rfl⟩:=rx;refine⟨"str", _,F.slot_str_getitem.lookup,typeIs_str _ _ _,?_⟩;cases pl<;>cases pu
  all_goals first
    | exact wpAny_getItem_str_slice (l:=none) (u:=none) (st:=none) hs rfl (post_val_or_str ⟨Nat.le_trans (Txt.slice_le z _ _) hz,fun t' k=>⟨.str _,H,I.tok _,⟨_,rfl⟩,q⟩⟩)
    | exact wpAny_getItem_str_slice (l:=none) (u:=some (_,_)) (st:=none) hs rfl (post_val_or_str ⟨Nat.le_trans (Txt.slice_le z _ _) hz,fun t' k=>⟨.str _,H,I.tok _,⟨_,rfl⟩,q⟩⟩)
    | exact wpAny_getItem_str_slice (l:=some (_,_)) (u:=none) (st:=none) hs rfl (post_val_or_str ⟨Nat.le_trans (Txt.slice_le z _ _) hz,fun t' k=>⟨.str _,H,I.tok _,⟨_,rfl⟩,q⟩⟩)
    | exact wpAny_getItem_str_slice (l:=some (_,_)) (u:=some (_,_)) (st:=none) hs rfl (post_val_or_str ⟨Nat.le_trans (Txt.slice_le z _ _) hz,fun t' k=>⟨.str _,H,I.tok _,⟨_,rfl⟩,q⟩⟩)
def tF3 (m:Str) (ta tb:TE):TE:=fun σ H Q=>ta σ H fun x H1=>∃ i:Int,x=.int i∧i.natAbs.log2<1920∧(Str.ofString (toString i)).length≤sizeLine∧(Str.ofString (toString i)++m).length≤sizeLine∧tb σ H1 fun y H2=>∃ j:Int,y=.int j∧j.natAbs.log2<1920∧((Str.ofString (toString i)++m)++Str.ofString (toString j)).length≤sizeLine∧Q (.str ((Str.ofString (toString i)++m)++Str.ofString (toString j))) H2
theorem znD {a b:Expr} {ta tb:TE} {m:Str} {k p1 p2 p3 pos} (ha:PE X a ta) (hb:PE X b tb):PE X (.JoinedStr [.FormattedValue a (-1) none p1,.Constant (.str m) k p2,.FormattedValue b (-1) none p3] pos) (tF3 m ta tb):=by
  intro pins s σ H Q I h;refine JoinedStr_many (joinParts_cons (FormattedValue_plain (thn (ha pins s σ H _ I h) fun v s1 ⟨x,H1,I1,r1,q1⟩=>?_)))
  obtain⟨i,rfl,hi,z1,z2,q1⟩:=q1;obtain⟨t,rfl⟩:=r1;refine formatField_int_small hi ⟨by rw [PySem.W.KT.empty_app];exact z1,?_⟩
  rw [PySem.W.KT.empty_app];refine joinParts_cons (Calls.Constant_str ⟨z2,?_⟩);refine joinParts_cons (FormattedValue_plain (thn (hb pins _ σ H1 _ (I1.tok _) q1) fun v s2 ⟨y,H2,I2,r2,q2⟩=>?_))
  obtain⟨j,rfl,hj,z3,q⟩:=q2;obtain⟨t2,rfl⟩:=r2;exact formatField_int_small hj ⟨z3,joinParts_nil ⟨.str _,H2,I2.tok _,⟨_,rfl⟩,q⟩ z3⟩
end
end L2
namespace L3
open PySem PySem.Spec PyProof.Rows L2
variable [LamW]
section
variable {X:Cx} {H0:Hp} {e o:Expr} {pos p apos:Pos}
def intS3:C3:=fun cs Q=>match cs with
  | [.sh _ (.str z)]=>∃ n,PySem.intText? z=some n∧z.length≤640∧Q true (.int n)
  | _=>False
theorem zfJ:CallOk X (.type "int") intS3:=by
  refine⟨fun cs Q Q' h q=>?_,fun H0=>zC.imp zmK fun xs H Q=>el2 fun G cs s w q=>?_⟩
  · unfold intS3 at *;split at q
    · obtain⟨n,a,b,q⟩:=q;exact⟨n,a,b,h _ _ q⟩
    · exact q
  · unfold intS3 at q;split at q
    · obtain⟨v,rfl,w1⟩:=vws1 w
      have r:=(zi w1).rd;cases r;obtain⟨n,a,b,q⟩:=q;exact⟨_,n,rfl,a,b,q _ G H (Gr.refl s) (.sc rfl (.int _))⟩
    · exact q.elim
def stS3 (to te:TE3):TE3:=fun ρ Q=>to ρ fun c=>∃ f a,c=.sh f (.str a)∧te ρ fun c2=>∃ g b,c2=.sh g (.str b)∧Q (.sh true (.bool (Txt.startswith a b)))
theorem zjQ {to te:TE3} (ho:PE3 X H0 o to) (he:PE3 X H0 e te) (hb:attributeBase o "startswith" X.env (eval o X.env)=eval o X.env:=by rfl)
    (hf:((backTo pos (starEach [e] X.env)).all (fun x=>!x.1)&&(backToKw pos (keywordEach [] X.env)).all (fun x=>x.1.isSome)&&decide ([e].length+([]:List Keyword).length+(if([]:List Keyword).isEmpty then 0 else 1)<30))=true:=by rfl)
    (hl:(apos.endLine==pos.line)=true:=by rfl) (hs:starEach [e] X.env=(false,eval e X.env)::starEach [] X.env:=by rfl) (hp:(backTo pos (starEach [] X.env)).any (·.1)=false:=by rfl) :
    PE3 X H0 (.Call (.Attribute o "startswith" apos) [e] [] pos) (stS3 to te):=by
  refine⟨fun ρ Q Q' h q=>ho.mono ρ _ _ (fun c ⟨f,a,hc,q⟩=>⟨f,a,hc,he.mono ρ _ _ (fun c2 ⟨g,b,hb,q⟩=>⟨g,b,hb,h _ q⟩) q⟩) q,PE.imp (ZT PySem.F.plainAttrs_str PySem.F.slot_str_startswith PySem.F.type_str_startswith znR ho.ok (zR he.ok zQ hs) hb hf hl hs hp) fun σ H Q=>el5 fun G0 ρ G F q=>⟨G0,ρ,G,F,ho.mono ρ _ _ (fun c hc0 v G1 H1 g1 w=>?_) q⟩⟩
  obtain⟨f,a,rfl,q⟩:=hc0;have r:=(zi w).rd;cases r;refine⟨rfl,G0,ρ,G1,F.gr g1,he.mono ρ _ _ (fun c2 hc0 v2 G2 H2 g2 w2=>?_) q⟩
  obtain⟨g,b,rfl,q⟩:=hc0;have r:=(zi w2).rd;cases r;exact⟨a,b,rfl,rfl,q _ G2 H2 (g1.trans g2) (.sh (.sc rfl (.bl _)))⟩
def ptS3 (to te:TE3):TE3:=fun ρ Q=>to ρ fun c=>∃ f a,c=.sh f (.str a)∧te ρ fun c2=>∃ g b,c2=.sh g (.str b)∧(b.length==0)=false∧a.length≤sizeLine∧Q (.sh true (.tuple [.str (Txt.partition a b).1,.str (Txt.partition a b).2.1,.str (Txt.partition a b).2.2]))
theorem zoL {to te:TE3} (ho:PE3 X H0 o to) (he:PE3 X H0 e te) (hb:attributeBase o "partition" X.env (eval o X.env)=eval o X.env:=by rfl)
    (hf:((backTo pos (starEach [e] X.env)).all (fun x=>!x.1)&&(backToKw pos (keywordEach [] X.env)).all (fun x=>x.1.isSome)&&decide ([e].length+([]:List Keyword).length+(if([]:List Keyword).isEmpty then 0 else 1)<30))=true:=by rfl)
    (hl:(apos.endLine==pos.line)=true:=by rfl) (hs:starEach [e] X.env=(false,eval e X.env)::starEach [] X.env:=by rfl) (hp:(backTo pos (starEach [] X.env)).any (·.1)=false:=by rfl) :
    PE3 X H0 (.Call (.Attribute o "partition" apos) [e] [] pos) (ptS3 to te):=by
  refine⟨fun ρ Q Q' h q=>ho.mono ρ _ _ (fun c ⟨f,a,hc,q⟩=>⟨f,a,hc,he.mono ρ _ _ (fun c2 ⟨g,b,hb,z,z',q⟩=>⟨g,b,hb,z,z',h _ q⟩) q⟩) q,PE.imp (ZT PySem.F.plainAttrs_str PySem.F.slot_str_partition PySem.F.type_str_partition zkz ho.ok (zR he.ok zQ hs) hb hf hl hs hp) fun σ H Q=>el5 fun G0 ρ G F q=>⟨G0,ρ,G,F,ho.mono ρ _ _ (fun c hc0 v G1 H1 g1 w=>?_) q⟩⟩
  obtain⟨f,a,rfl,q⟩:=hc0;have r:=(zi w).rd;cases r;refine⟨rfl,G0,ρ,G1,F.gr g1,he.mono ρ _ _ (fun c2 hc0 v2 G2 H2 g2 w2=>?_) q⟩
  obtain⟨g,b,rfl,z,z',q⟩:=hc0;have r:=(zi w2).rd;cases r;refine⟨a,b,rfl,rfl,z,z',fun p hpn=>?_⟩
  have gg:=(g1.trans g2).trans (Gr.put (o:=.tup [.str (Txt.partition a b).1,.str (Txt.partition a b).2.1,.str (Txt.partition a b).2.2]) g2.sub hpn);exact q _ _ _ gg (.sh ⟨.tup (.inl (.inl zh)) (.cons (.str _) (.cons (.str _) (.cons (.str _) .nil))),fun _=>.tup zh (.cons (.str _) (.cons (.str _) (.cons (.str _) .nil)))⟩)
def slS3 (te:TE3) (tl th:TO3):TE3:=fun ρ Q=>te ρ fun c=>tl ρ fun l=>th ρ fun u=>∃ f z,c=.sh f (.str z)∧z.length≤sizeLine∧Q (.sh true (.str (Txt.slice z l u)))
theorem zbk {lo hi:Option Expr} {p2:Pos} {te:TE3} {tl th:TO3} (he:PE3 X H0 e te) (hl:PO3 X H0 lo tl) (hh:PO3 X H0 hi th):PE3 X H0 (.Subscript e (.Slice lo hi none p2) pos) (slS3 te tl th):=by
  refine⟨fun ρ Q Q' h q=>he.mono ρ _ _ (fun c=>hl.mono ρ _ _ fun l=>hh.mono ρ _ _ fun u ⟨f,z,a,b,q⟩=>⟨f,z,a,b,h _ q⟩) q,PE.imp (zhH zn4 he.ok hl.ok hh.ok) fun σ H Q=>el5 fun G0 ρ G F q=>?_⟩
  refine⟨G0,ρ,G,F,he.mono ρ _ _ (fun c qc v G1 H1 g1 w1=>⟨G0,ρ,G1,F.gr g1,hl.mono ρ _ _ (fun l ql G2 H2 g2=>⟨G0,ρ,G2,F.gr (g1.trans g2),hh.mono ρ _ _ (fun u qu G3 H3 g3=>?_) ql⟩) qc⟩) q⟩
  obtain⟨f,z,rfl,hz,q⟩:=qu;have r:=(zi w1).rd;cases r;exact⟨z,rfl,hz,q _ G3 H3 ((g1.trans g2).trans g3) (.sh (.sc rfl (.str _)))⟩
def fs3 (m:Str) (ta tb:TE3):TE3:=fun ρ Q=>ta ρ fun c=>∃ (f:Bool) (i:Int),c=.sh f (.int i)∧i.natAbs.log2<1920∧(Str.ofString (toString i)).length≤sizeLine∧(Str.ofString (toString i)++m).length≤sizeLine∧tb ρ fun c2=>∃ (g:Bool) (j:Int),c2=.sh g (.int j)∧j.natAbs.log2<1920∧((Str.ofString (toString i)++m)++Str.ofString (toString j)).length≤sizeLine∧Q (.sh true (.str ((Str.ofString (toString i)++m)++Str.ofString (toString j))))
theorem znv {a b:Expr} {ta tb:TE3} {m:Str} {k p1 p2 p3} (ha:PE3 X H0 a ta) (hb:PE3 X H0 b tb):PE3 X H0 (.JoinedStr [.FormattedValue a (-1) none p1,.Constant (.str m) k p2,.FormattedValue b (-1) none p3] pos) (fs3 m ta tb):=by
  refine⟨fun ρ Q Q' h q=>ha.mono ρ _ _ (fun c ⟨f,i,h1,h2,h3,h4,q⟩=>⟨f,i,h1,h2,h3,h4,hb.mono ρ _ _ (fun c2 ⟨g,j,k1,k2,k3,q⟩=>⟨g,j,k1,k2,k3,h _ q⟩) q⟩) q,PE.imp (znD ha.ok hb.ok) fun σ H Q=>el5 fun G0 ρ G F q=>⟨G0,ρ,G,F,ha.mono ρ _ _ (fun c hc0 v G1 H1 g1 w=>?_) q⟩⟩
  obtain⟨f,i,rfl,h2,h3,h4,q⟩:=hc0;have r:=(zi w).rd;cases r;refine⟨i,rfl,h2,h3,h4,G0,ρ,G1,F.gr g1,hb.mono ρ _ _ (fun c2 hc0 v2 G2 H2 g2 w2=>?_) q⟩
  obtain⟨g,j,rfl,k2,k3,q⟩:=hc0;have r:=(zi w2).rd;cases r;exact⟨j,rfl,k2,k3,q _ G2 H2 (g1.trans g2) (.sh (.sc rfl (.str _)))⟩
end
end L3
namespace L2
open PySem PySem.Spec PyProof.Rows
section
variable {X:Cx}
def zlc (K:PySem.W.Frag):V→V→Hp→VK→Prop:=fun x y H Q=>∃ p xs i v,x=.ref p∧y=.int i∧0≤i∧SqL K H p xs∧atI xs i=some v∧Q v H
theorem zog:PGet X (zlc X.K):=by
  intro pins s σ H x y v u Q I rx ry h;obtain⟨p,xs,i,z,rfl,rfl,h0,hq,he,q⟩:=h;cases rx;obtain⟨t,rfl⟩:=ry;obtain⟨its,r,pl,hz⟩:=I.list hq;obtain⟨j,h1,h2,h3,h4,h5⟩:=zbM he;obtain⟨w,ew,rw'⟩:=r.get h2;have hl:=r.length;have hn:=Jt;have hj:i.toNat=j:=by
    rw [seqIndex_of h0 h5] at h1;exact Option.some.inj h1
  exact wpAny_getItem_list pl.isList h0 (by omega) (by rw [hj];simpa using ew) ⟨z,H,I,rw',q⟩
end
end L2
namespace L3
open PySem PySem.Spec PyProof.Rows L2
variable [LamW]
section
variable {X:Cx} {H0:Hp} {e:Expr} {pos:Pos}
end
end L3
namespace L2
open PySem PySem.Spec PyProof.Rows
theorem zlq:bootBuiltins "enumerate" = some (.type "enumerate"):=by with_unfolding_all rfl
end L2
namespace L3
open PySem PySem.Spec PyProof.Rows L2
variable [LamW]
section
variable {X:Cx} {H0:Hp} {pos p:Pos}
def Jo (ds:List D):List D:=(List.range ds.length).map fun i=>.tuple [.int (i:Nat),ds.getD i .none]
theorem zi8 (ds:List D):(Jo ds).length=ds.length:=by unfold Jo;simp
theorem zn0 {ds:List D} {i:Nat} {d:D} (h:(Jo ds)[i]?=some d):∃ a,d=.tuple [.int (i:Nat),a]∧ds[i]?=some a:=by
  unfold Jo at h;rw [List.getElem?_map] at h
  by_cases hi:i<ds.length
  · rw [List.getElem?_range hi] at h
    cases h;exact⟨ds[i],by simp [hi],List.getElem?_eq_getElem hi⟩
  · rw [List.getElem?_eq_none (by simp;omega)] at h;cases h
end
end L3
namespace L2
open PySem PySem.Spec PyProof.Rows
section
variable {X:Cx}
end
end L2
namespace L3
open PySem PySem.Spec PyProof.Rows L2
variable [LamW]
section
variable {X:Cx} {H0:Hp} {e o:Expr} {pos p apos:Pos}
end
variable [LamW]
section
variable {X:Cx} {H0:Hp} {pos:Pos} {x:Str}
def k3f (d:D):TE3:=fun _ Q=>Q (.sh false d)
def TopD (K:PySem.W.Frag) (a:Addr) (d:D):Prop:=RdV K (fun _=>none) (.ref a) d
theorem TopD.rd {K:PySem.W.Frag} {a:Addr} {d:D} (t:TopD K a d) (G:Hp):RdV K G (.ref a) d:=jx (fun b o e=>by cases e) t
theorem g3d {d:D} (hg:Gl X x) (hm:∃ a,X.mg x=some (.ref a)∧TopD X.K a d) (hd:(x==("__debug__" : Str))=false:=by decide):PE3 X H0 (.Name x pos) (k3f d):=by
  obtain⟨a,hm,ht⟩:=hm;exact⟨fun ρ Q Q' h q=>h _ q,PE.imp (zfV (v:=.ref a) hg hm rfl hd) fun σ H Q=>el5 fun G0 ρ G F q=>q (.ref a) G H (Gr.refl F.sub) (.sh ⟨ht.rd G,fun z=>by cases z⟩)⟩
end
end L3
namespace L2
open PySem PySem.Spec PyProof.Rows
section
variable {κ : Type} [DecidableEq κ]
def valV (kvs:List (κ×V)) (k:κ):Option V:=(kvs.find? fun kv=>decide (kv.1=k)).map (·.2)
def putK (kvs:List (κ×V)) (k:κ) (v:V):List (κ×V):=
  if(kvs.any fun kv=>decide (kv.1=k))=true then kvs.map (fun kv=>if kv.1=k then(kv.1,v) else kv) else kvs++[(k,v)]
theorem zb0 {p:κ×V} {r:List (κ×V)} {k:κ} (e:p.1=k):valV (p::r) k=some p.2:=by simp [valV,List.find?_cons,e]
theorem zcl {p:κ×V} {r:List (κ×V)} {k:κ} (e:¬p.1=k):valV (p::r) k=valV r k:=by simp [valV,List.find?_cons,e]
theorem zee (k:κ):∀ kvs:List (κ×V),(kvs.any fun kv=>decide (kv.1=k))=(valV kvs k).isSome
  | []=>rfl
  | p :: r => by
    rw [List.any_cons]
    by_cases e:p.1=k
    · simp only [zb0 e,decide_eq_true e,Bool.true_or,Option.isSome_some]
    · rw [zcl e,decide_eq_false e,Bool.false_or];exact zee k r
theorem zdh (kvs:List (κ×V)) (k:κ) (v:V):(putK kvs k v).length≤kvs.length+1:=by
  unfold putK
  split
  · rw [List.length_map];omega
  · rw [List.length_append,List.length_cons,List.length_nil];omega
theorem RelO.isSome_eq {o:Option V} {u:Option Value} (r:RelO o u):o.isSome=u.isSome:=by
  cases o with
  | none => cases u with
    | none=>rfl
    | some _=>exact(show False from r).elim
  | some _ => cases u with
    | none=>exact(show False from r).elim
    | some _=>rfl
theorem KV.val {kvs:List (κ×V)} {vs:List (κ×Value)} (r:KV kvs vs) (k:κ):RelO (valV kvs k) (valueAt vs k):=by
  unfold KV at r
  induction r with
  | nil=>exact True.intro
  | @cons p q ps qs h t ih=>
    obtain⟨h1,h2⟩:=h
    by_cases e:p.1=k
    · have e':q.1=k:=h1.symm.trans e
      have b:valueAt (q::qs) k=some q.2:=by simp [valueAt,List.find?_cons,e']
      rw [zb0 e,b];exact h2
    · have e':¬q.1=k:=fun z=>e (h1.trans z)
      have b:valueAt (q::qs) k=valueAt qs k:=by simp [valueAt,List.find?_cons,e']
      rw [zcl e,b];exact ih
theorem KV.any {kvs:List (κ×V)} {vs:List (κ×Value)} (r:KV kvs vs) (k:κ):(kvs.any fun kv=>decide (kv.1=k))=vs.any fun kv=>decide (kv.1=k):=by
  unfold KV at r
  induction r with
  | nil=>rfl
  | cons h t ih=>rw [List.any_cons,List.any_cons,ih,h.1]
theorem KV.repl {kvs:List (κ×V)} {vs:List (κ×Value)} (r:KV kvs vs) (k:κ) {y:V} {u:Value} (ry:RelV y u) :
    KV (kvs.map fun kv=>if kv.1=k then(kv.1,y) else kv) (vs.map fun kv=>if kv.1=k then(kv.1,u) else kv):=by
  unfold KV at r ⊢
  induction r with
  | nil=>exact .nil
  | @cons p q ps qs h t ih=>
    rw [List.map_cons,List.map_cons];refine .cons ?_ ih;obtain⟨h1,h2⟩:=h
    by_cases e:p.1=k
    · rw [if_pos e,if_pos (h1.symm.trans e)];exact⟨h1,ry⟩
    · rw [if_neg e,if_neg (fun z=>e (h1.trans z))];exact⟨h1,h2⟩
theorem KV.put {kvs:List (κ×V)} {vs:List (κ×Value)} (r:KV kvs vs) (k:κ) {y:V} {u:Value} (ry:RelV y u):KV (putK kvs k y) (stored vs k u):=by
  unfold putK stored;rw [r.any k]
  by_cases e:(vs.any fun kv=>decide (kv.1=k))=true
  · rw [if_pos e,if_pos e];exact r.repl k ry
  · rw [if_neg e,if_neg e];exact Paired.snoc r ⟨rfl,ry⟩
theorem KV.keys {kvs:List (κ×V)} {vs:List (κ×Value)} (r:KV kvs vs):kvs.map (·.1)=vs.map (·.1):=by
  unfold KV at r
  induction r with
  | nil=>rfl
  | cons h t ih=>rw [List.map_cons,List.map_cons,ih,h.1]
theorem KV.length {kvs:List (κ×V)} {vs:List (κ×Value)} (r:KV kvs vs):kvs.length=vs.length:=Paired.length r
end
theorem zbJ {P:Program} {w:World} {k:Key} {u:Value} (r:RelV (kV k) u):(jh P w).is k u=true:=by
  cases k with
  | inl i=>obtain⟨t,e⟩:=(show ∃ t,u=Value.int i t from r);subst e;exact zkV P w i t
  | inr x=>obtain⟨t,e⟩:=(show ∃ t,u=Value.str x t from r);subst e;exact zkr P w x t
theorem zhg {P:Program} {w:World}:∀ {ks:List Key} {us:List Value},Vals (ks.map kV) us→ItemsAre (jh P w) ks us
  | [],_,r=>by rw [List.map_nil] at r;cases r;exact .nil
  | k :: ks, _, r => by
    rw [List.map_cons] at r;cases r with
    | cons h t=>exact .cons (zbJ h) (zhg t)
abbrev KT (H:Hp):List (List Key×V)→List (List Key×Addr×Value)→Prop:=Paired fun p q=>p.1=q.1∧H q.2.1=some (.tup (p.1.map kV))∧RelV p.2 q.2.2
theorem KT.val {H:Hp} {kvs:List (List Key×V)} {xs:List (List Key×Addr×Value)} (r:KT H kvs xs) (k:List Key):RelO (valV kvs k) ((atKey xs k).map (·.2)):=by
  induction r with
  | nil=>exact True.intro
  | @cons p q ps qs h t ih=>
    obtain⟨h1,_,h2⟩:=h
    by_cases e:p.1=k
    · have e':q.1=k:=h1.symm.trans e
      have b:atKey (q::qs) k=some q.2:=by simp [atKey,List.find?_cons,e']
      rw [zb0 e,b];exact h2
    · have e':¬q.1=k:=fun z=>e (h1.trans z)
      have b:atKey (q::qs) k=atKey qs k:=by simp [atKey,List.find?_cons,e']
      rw [zcl e,b];exact ih
theorem KT.repl {H:Hp} {kvs:List (List Key×V)} {xs:List (List Key×Addr×Value)} (r:KT H kvs xs) (k:List Key) {y:V} {u:Value} (ry:RelV y u) :
    KT H (kvs.map fun kv=>if kv.1=k then(kv.1,y) else kv) (xs.map (putAt k u)):=by
  induction r with
  | nil=>exact .nil
  | @cons p q ps qs h t ih=>
    rw [List.map_cons,List.map_cons];refine .cons ?_ ih;obtain⟨h1,h2,h3⟩:=h;unfold putAt
    by_cases e:p.1=k
    · rw [if_pos e,if_pos (h1.symm.trans e)];exact⟨h1,h2,ry⟩
    · rw [if_neg e,if_neg (fun z=>e (h1.trans z))];exact⟨h1,h2,h3⟩
theorem KT.put {H:Hp} {kvs:List (List Key×V)} {xs:List (List Key×Addr×Value)} (r:KT H kvs xs) (k:List Key) {b:Addr} {y:V} {u:Value} (hb:H b=some (.tup (k.map kV))) (ry:RelV y u) :
    KT H (putK kvs k y) (storedH xs k b u):=by
  have e:(kvs.any fun kv=>decide (kv.1=k))=(atKey xs k).isSome:=by
    rw [zee,(r.val k).isSome_eq,Option.isSome_map]
  unfold putK storedH;rw [e]
  by_cases q:(atKey xs k).isSome=true
  · rw [if_pos q,if_pos q];exact r.repl k ry
  · rw [if_neg q,if_neg q];exact Paired.snoc r ⟨rfl,hb,ry⟩
theorem KT.keeps {H H':Hp} {kvs:List (List Key×V)} {xs:List (List Key×Addr×Value)} (r:KT H kvs xs) (ht:∀ b ys,H b=some (.tup ys)→H' b=some (.tup ys)):KT H' kvs xs:=
  Paired.mapP r fun _ _ z=>⟨z.1,ht _ _ z.2.1,z.2.2⟩
section
variable {P:Program} {w:World} {H:Hp} {h:Heap} {a:Addr}
theorem zgk {u:HO} (ok:HOk P w H h) (e:Rd H a u):zK P w H h a u:=e.ok ok
theorem zcU {kvs:List (Key×V)} (ok:HOk P w H h) (e:Rd H a (.dK kvs)):kvs.length≤sizeLine∧(a==sysModules)=false∧∃ vs,KV kvs vs∧h.DictOf (jh P w) a vs:=
  show zK P w H h a (.dK kvs) from zgk ok e
theorem zcV {kvs:List (Key×V)} (ok:HOk P w H h) (e:H a=some (.dK kvs)):kvs.length≤sizeLine∧(a==sysModules)=false∧∃ vs,KV kvs vs∧h.DictOf (jh P w) a vs:=zcU ok (.inl e)
theorem zcL {ks:List Key} (ok:HOk P w H h) (e:H a=some (.tup (ks.map kV))):(tupleKind (jh P w)).is h ks a:=by
  obtain⟨_,its,r,o,h1,h2,n,h3⟩:=(show zK P w H h a (.tup (ks.map kV)) from ok a _ e)
  exact⟨o,its.toArray,n,h1,h2,h3,by simpa using zhg r⟩
theorem zd3 {kvs:List (List Key×V)} (ok:HOk P w H h) (e:Rd H a (.dT kvs)):kvs.length≤sizeLine∧(a==sysModules)=false∧
    ∃ xs,KT H kvs xs∧h.DictOfH (tupleKind (jh P w)) a xs:=by
  obtain⟨z,y,xs,r,o,es,ep,h1,h2,h3,h4,h5⟩:=(show zK P w H h a (.dT kvs) from zgk ok e)
  refine⟨z,y,xs,r,o,es,ep,h1,h2,h3,h4,fun x hx=>?_,h5⟩
  have all:∀ {l:List (List Key×V)} {m:List (List Key×Addr×Value)},KT H l m→∀ x∈m,(tupleKind (jh P w)).is h x.1 x.2.1:=by
    intro l m q
    induction q with
    | nil=>intro x hx;exact nomatch hx
    | @cons p q ps qs hq t ih=>
      intro x hx
      rcases List.mem_cons.mp hx with e|hx
      · subst e
        exact zcL ok (by rw [←hq.1];exact hq.2.1)
      · exact ih x hx
  exact all r x hx
theorem zos {kvs:List (List Key×V)} (ok:HOk P w H h) (e:H a=some (.dT kvs)):kvs.length≤sizeLine∧(a==sysModules)=false∧
    ∃ xs,KT H kvs xs∧h.DictOfH (tupleKind (jh P w)) a xs:=zd3 ok (.inl e)
end
def DGet (H:Hp) (a:Addr) (y:V) (r:Option V):Prop:=
  (∃ kvs k,Rd H a (.dK kvs)∧y=kV k∧r=valV kvs k)∨∃ kvs k b,Rd H a (.dT kvs)∧y=.ref b∧H b=some (.tup (k.map kV))∧r=valV kvs k
def DPut (H:Hp) (a:Addr) (y v:V) (H':Hp):Prop:=
  (∃ kvs k,H a=some (.dK kvs)∧y=kV k∧kvs.length<sizeLine∧H'=upd H a (.dK (putK kvs k v)))∨
  ∃ kvs k b,H a=some (.dT kvs)∧y=.ref b∧H b=some (.tup (k.map kV))∧kvs.length<sizeLine∧H'=upd H a (.dT (putK kvs k v))
theorem DGet.k {H:Hp} {a:Addr} {kvs:List (Key×V)} {k:Key} (e:H a=some (.dK kvs)):DGet H a (kV k) (valV kvs k):=.inl ⟨kvs,k,.inl e,rfl,rfl⟩
theorem DGet.t {H:Hp} {a b:Addr} {kvs:List (List Key×V)} {k:List Key} (e:H a=some (.dT kvs)) (eb:H b=some (.tup (k.map kV))):DGet H a (.ref b) (valV kvs k):=.inr ⟨kvs,k,b,.inl e,rfl,eb,rfl⟩
theorem DPut.k {H:Hp} {a:Addr} {kvs:List (Key×V)} {k:Key} {v:V} (e:H a=some (.dK kvs)) (hl:kvs.length<sizeLine):DPut H a (kV k) v (upd H a (.dK (putK kvs k v))):=.inl ⟨kvs,k,e,rfl,hl,rfl⟩
theorem DPut.t {H:Hp} {a b:Addr} {kvs:List (List Key×V)} {k:List Key} {v:V} (e:H a=some (.dT kvs)) (eb:H b=some (.tup (k.map kV))) (hl:kvs.length<sizeLine) :
    DPut H a (.ref b) v (upd H a (.dT (putK kvs k v))):=.inr ⟨kvs,k,b,e,rfl,eb,hl,rfl⟩
section
variable {X:Cx} {pins:List (Addr×Obj)} {σ : St} {H:Hp} {s:Shared} {a:Addr} {y v:V} {u r:Value} {o:Option V} {A:Around} {E:Value→Shared→Prop}
theorem Inv.big (I:Inv X pins σ H s):sysModules<s.heap.objs.size:=by
  have h:mainGlobals<s.heap.objs.size:=(I.mod.glob.keeps I.bk).lt;exact Nat.lt_trans (by decide) h
theorem znL {Q:Value→Shared→Prop} (hu:A.units+1<cLine) (I:Inv X pins σ H s) (g:DGet H a y (some v)) (ry:RelV y u) (h:∀ w' s',Inv X pins σ H s'→RelV v w'→Q w' s') :
    wpAny (model X.prog X.w) A (getItem (.ref a) u) Q E s:=by
  rcases g with ⟨kvs,k,e,ey,l⟩|⟨kvs,k,b,e,ey,eb,l⟩
  · subst ey
    obtain⟨z,hd,vs,rel,dd⟩:=zcU I.hok e;obtain⟨w',hw,rw'⟩:=RelO.some_of (v:=v) (o:=valueAt vs k) (by rw [l];exact rel.val k)
    exact wpAny_getItem_of (zbJ ry) dd.mapOf hw (h w' _ (I.tok _) rw')
  · subst ey
    cases(show u=Value.ref b from ry)
    obtain⟨z,hd,xs,rel,dd⟩:=zd3 I.hok e;obtain⟨w',hw,rw'⟩:=RelO.some_of (v:=v) (o:=(atKey xs k).map (·.2)) (by rw [l];exact rel.val k)
    obtain⟨p,hp,hp2⟩:=Option.map_eq_some_iff.mp hw;refine wpAny_getItem_heap (tupleKind_room_in1 hu) (zcL I.hok eb) dd hp ?_;rw [hp2];exact h w' _ (I.tok _) rw'
theorem zbF {h':Heap} {t':Nat} {ob:HO} (I:Inv X pins σ H s) (mu:Mut (H a)) (hs:Heap.SameBut a s.heap h') (he:∃ q,h'.get? a=some q) (new:zK X.prog X.w (upd H a ob) h' a ob) :
    Inv X pins σ (upd H a ob) { s with heap:=h',toks:=t' }:=
  I.write (x:=a) (e:=a) mu (.inl rfl) (fun b q hb z=>(hs.2 b hb).trans z) he new
theorem zd2 {P:Program} {w:World} {H':Hp} {h':Heap} {kvs:List (Key×V)} {vs:List (Key×Value)} (z:kvs.length≤sizeLine) (hd:(a==sysModules)=false) (rel:KV kvs vs) (dd:h'.DictOf (jh P w) a vs) :
    zK P w H' h' a (.dK kvs):=⟨z,hd,vs,rel,dd⟩
theorem zl4 {H':Hp} {Q:Unit→Shared→Prop} (hu:A.units+1<cLine) (I:Inv X pins σ H s) (g:DPut H a y v H') (ry:RelV y u) (rv:RelV v r) (h:∀ s',Inv X pins σ H' s'→Q () s') :
    wpAny (model X.prog X.w) A (setItem (.ref a) u r) Q E s:=by
  rcases g with ⟨kvs,k,e,ey,l,eH⟩|⟨kvs,k,b,e,ey,eb,l,eH⟩
  · subst ey eH
    obtain⟨z,hd,vs,rel,dd⟩:=zcV I.hok e;have hz:vs.length≤sizeLine:=by rw [←rel.length];exact z
    have hl:(putK kvs k v).length≤sizeLine:=by have:=zdh kvs k v;omega
    refine wpAny_setItem_pairs (hsz:=hz) (zbJ ry) dd fun h' dd' hs=>h _ ?_
    have he:∃ q,h'.get? a=some q:=let ⟨q,_,_,hq,_⟩:=dd';⟨q,hq⟩;exact zbF I (by rw [e];exact True.intro) hs he (zd2 hl hd (rel.put k rv) dd')
  · subst ey eH
    cases(show u=Value.ref b from ry)
    obtain⟨z,hd,xs,rel,dd⟩:=zos I.hok e;have hz:xs.length≤sizeLine:=by rw [←Paired.length rel];exact z
    have hl:(putK kvs k v).length≤sizeLine:=by have:=zdh kvs k v;omega
    refine wpAny_setItem_heap (hsz:=hz) (tupleKind_room_in1 hu) (zcL I.hok eb) dd fun h' dd' hs=>h _ ?_
    obtain⟨q,es,ep,hq,h2,h3,h4,_,h5⟩:=dd';refine zbF I (by rw [e];exact True.intro) hs ⟨q,hq⟩ ⟨hl,hd,_,(rel.put k eb rv).keeps fun c ys ec=>?_,q,es,ep,hq,h2,h3,h4,h5⟩
    rw [zd (zou ec e (fun z=>nomatch z))]
    exact ec
end
section
variable {X:Cx} {pins:List (Addr×Obj)} {σ : St} {H:Hp} {s:Shared} {a:Addr} {kvs:List (Key×V)} {k:Key} {u:Value} {A:Around} {E:Value→Shared→Prop}
theorem zg2 {Q:Value→Shared→Prop} (I:Inv X pins σ H s) (e:H a=some (.dK kvs)) (h:∀ s',Inv X pins σ (upd H a (.dK [])) s'→Q .none s'):wpAny (model X.prog X.w) A (call (.builtin "dict.clear") [.ref a]) Q E s:=by
  obtain⟨z,hd,vs,rel,dd⟩:=zcV I.hok e;refine call_meetsIn PySem.F.slot_dict_clear dd.typeIs PySem.F.entry_dict_clear (PySem.F.args_dict_clear_1 _) (meets_dict_clear (jh X.prog X.w) a) ⟨vs,dd,by rw [←rel.length];exact z,fun h' dd' hs=>h _ ?_⟩
  have he:∃ q,h'.get? a=some q:=let ⟨q,_,_,hq,_⟩:=dd';⟨q,hq⟩;exact zbF (t':=s.toks) I (by rw [e];exact True.intro) hs he (zd2 (Nat.zero_le _) hd .nil dd')
end
def NoSl (i:Expr):Prop:=∀ ov iv,subscripted i false ov iv=operate [ov,iv] (getItem ov iv)
theorem zgm {prog:Program} {w:World} {A:Around} {E:Value→Shared→Prop} {s:Shared} {env:Env} {value slice:Expr} {pos:Pos} {T id:String} {Q:Value→Shared→Prop}
    (hl:typeLookup (.type T) "__getitem__" = pure (some (.builtin id))) (hs:NoSl slice)
    (h:wpAny (model prog w) A (eval value env) (fun o s₁=>wpAny (model prog w) A (eval slice env) (fun i s₂=>s₂.TypeIs o T∧wpAny (model prog w) A (getItem o i) Q E s₂) E s₁) E s) :
    wpAny (model prog w) A (eval (.Subscript value slice pos) env) Q E s:=by
  refine Subscript_ (wpAny_mono h (fun o s₁ h₁=>wpAny_mono h₁ (fun i s₂ h₂=>?_) fun _ _ x=>x) fun _ _ x=>x)
  obtain⟨hT,h₂⟩:=h₂;unfold subscriptTail;refine wpAny_bind ?_;rw [getitemInPython_of_ne hT.not_modules];refine wpAny_bind (wpAny_specialOf hT hl ?_);have fin:wpAny (model prog w) A (subscripted slice false o i) (fun r s₃=>wpAny (model prog w) A (letTemporaryGo value o r >>= fun _=>pure r) Q E s₃) E s₂:=by
    rw [hs o i];exact wpAny_operating (wpAny_mono h₂ (fun r s₃ h₃=>wpAny_bind (wpAny_letTemporaryGo (wpAny_pure h₃))) fun _ _ x=>x)
  first
    | exact wpAny_pure (wpAny_bind fin)
    | exact wpAny_bind (wpAny_pure (wpAny_bind fin))
    | exact wpAny_bind fin
theorem ziA {X:Cx} {pins:List (Addr×Obj)} {σ : St} {H:Hp} {s:Shared} {a:Addr} {y:V} {o:Option V} (I:Inv X pins σ H s) (g:DGet H a y o):s.TypeIs (.ref a) "dict":=by
  rcases g with ⟨kvs,k,e,_,_⟩|⟨kvs,k,b,e,_,_,_⟩
  · obtain⟨_,_,vs,_,dd⟩:=zcU I.hok e
    exact dd.typeIs
  · obtain⟨_,_,xs,_,dd⟩:=zd3 I.hok e
    exact dd.typeIs
def zm8 (td ty:TE):TE:=fun σ H Q=>td σ H fun x H1=>ty σ H1 fun y H2=>∃ a v,x=.ref a∧DGet H2 a y (some v)∧Q v H2
def zol (td ty tv:TE):TS:=fun D σ H=>tv σ H fun v H1=>td σ H1 fun x H2=>ty σ H2 fun y H3=>∃ a H4,x=.ref a∧DPut H3 a y v H4∧D.nx σ H4
section
variable {X:Cx} {o i e value:Expr} {pos pos' tpos:Pos} {td ty tv:TE}
theorem zj2 (hu:X.A.units+1<cLine) (ho:PE X o td) (hi:PE X i ty) (hs:NoSl i):PE X (.Subscript o i pos) (zm8 td ty):=by
  intro pins s σ H Q I h;refine zgm PySem.F.slot_dict_getitem.lookup hs (thn (ho pins s σ H _ I h) fun u s1 ⟨x,H1,I1,rx,q1⟩=>thn (hi pins s1 σ H1 _ I1 q1) fun iv s2 ⟨y,H2,I2,ry,a,v,ex,g,q2⟩=>?_)
  subst ex;obtain rfl:u=Value.ref a:=rx;exact⟨ziA I2 g,znL hu I2 g ry fun w' s3 I3 rw'=>⟨v,H2,I3,rw',q2⟩⟩
theorem ziT (hu:X.A.units+1<cLine) (ho:PE X o td) (hi:PE X i ty) (hv:PE X value tv) (hs:swapsWith value (some (.Subscript o i pos')) pos.line X.env=pure false) :
    PS X (.Assign [.Subscript o i pos'] value pos) (zol td ty tv):=by
  intro pins s σ H D I h;refine wpAny_Assign_Subscript (thn (hv pins s σ H _ I h) fun r s1 ⟨v,H1,I1,rv,q1⟩=>thn (ho pins s1 σ H1 _ I1 q1) fun u s2 ⟨x,H2,I2,rx,q2⟩=>thn (hi pins s2 σ H2 _ I2 q2) fun iv s3 ⟨y,H3,I3,ry,a,H4,ex,g,q3⟩=>?_) hs
  subst ex;obtain rfl:u=Value.ref a:=rx;exact zl4 hu I3 g ry rv fun s4 I4=>⟨σ,H4,I4,q3⟩
end
theorem zmc {P:Program} {w:World} {H:Hp} (h:Heap) (hb:sysModules<h.objs.size):zK P w H (h.push { cls:=.type "dict", data:=.dict #[] }) h.objs.size (.dK []):=
  ⟨Nat.zero_le _,beq_eq_false_iff_ne.mpr (Ne.symm (Nat.ne_of_lt hb)),[],.nil,Heap.DictOf.new h⟩
section
variable {X:Cx} {pos:Pos}
end
def zco:List (TE×TE)→St→Hp→(List (V×V)→Hp→Prop)→Prop
  | [],_,H,Q=>Q [] H
  | (tk,tv)::r,σ,H,Q=>tk σ H fun x H1=>tv σ H1 fun y H2=>zco r σ H2 fun ps H3=>Q ((x,y)::ps) H3
abbrev VV:List (V×V)→List (Value×Value)→Prop:=Paired fun p q=>RelV p.1 q.1∧RelV p.2 q.2
def PPs (X:Cx) (pos:Pos) (keys:List (Option Expr)) (values:List Expr) (trs:List (TE×TE)):Prop:=
  ∀ (pins:List (Addr×Obj)) (s:Shared) (σ : St) (H:Hp) (Q:List (V×V)→Hp→Prop),Inv X pins σ H s→zco trs σ H Q→
    wpAny (model X.prog X.w) X.A (evalPairs (pairTrees keys values X.env pos)) (fun vs s'=>∃ ps H',Inv X pins σ H' s'∧VV ps vs∧Q ps H') X.xe s
theorem zmE {X:Cx} {pos:Pos}:PPs X pos [] [] []:=fun pins s σ H Q I h=>pairTrees_nil_walk ⟨[],H,I,.nil,h⟩
theorem zgO {X:Cx} {pos:Pos} {k v:Expr} {ks:List (Option Expr)} {vs:List Expr} {tk tv:TE} {trs:List (TE×TE)} (hk:PE X k tk) (hv:PE X v tv) (hr:PPs X pos ks vs trs) :
    PPs X pos (some k::ks) (v::vs) ((tk,tv)::trs):=fun pins s σ H Q I h=>
  pairTrees_cons_walk (thn (hk pins s σ H _ I h) fun u s1 ⟨x,H1,I1,rx,q1⟩=>thn (hv pins s1 σ H1 _ I1 q1) fun w2 s2 ⟨y,H2,I2,ry,q2⟩=>
    thn (hr pins s2 σ H2 _ I2 q2) fun ws s3 ⟨ps,H3,I3,rel,q3⟩=>⟨(x,y)::ps,H3,I3,.cons ⟨rx,ry⟩ rel,q3⟩)
def J9 (kvs more:List (Key×V)):List (Key×V):=more.foldl (fun acc kv=>putK acc kv.1 kv.2) kvs
theorem KV.merge:∀ {more:List (Key×V)} {rs:List (Key×Value)} {kvs:List (Key×V)} {vs:List (Key×Value)},KV more rs→KV kvs vs→KV (J9 kvs more) (merged vs rs):=by
  intro more rs kvs vs r;unfold KV at r
  induction r generalizing kvs vs with
  | nil=>intro q;exact q
  | @cons p q ps qs h t ih=>
    intro r0;have e:KV (putK kvs p.1 p.2) (stored vs q.1 q.2):=by
      have:=r0.put p.1 h.2;rw [←h.1];exact this
    exact ih e
theorem zhD:∀ (more kvs:List (Key×V)),(J9 kvs more).length≤kvs.length+more.length
  | [],kvs=>by show kvs.length≤kvs.length+0;omega
  | p :: r, kvs => by
    have h1:=zhD r (putK kvs p.1 p.2);have h2:=zdh kvs p.1 p.2;show(J9 (putK kvs p.1 p.2) r).length≤_;rw [List.length_cons];omega
theorem zgC {P:Program} {w:World}:∀ {kvs:List (Key×V)} {ws:List (Value×Value)},VV (kvs.map fun kv=>(kV kv.1,kv.2)) ws→∃ rs,Carries (jh P w) ws rs∧KV kvs rs
  | [],_,r=>by rw [List.map_nil] at r;cases r;exact⟨[],True.intro,.nil⟩
  | p :: kvs, _, r => by
    rw [List.map_cons] at r;cases r with
    | @cons a b as bs h t=>
      obtain⟨rs,c,q⟩:=zgC (P:=P) (w:=w) t;obtain⟨b1,b2⟩:=b;exact⟨(p.1,b2)::rs,⟨zbJ h.1,rfl,c⟩,.cons ⟨rfl,h.2⟩ q⟩
def zc2 (trs:List (TE×TE)):TE:=fun σ H Q=>∀ p,H p=none→zco trs σ (upd H p (.dK [])) fun ps H2=>H2 p=some (.dK [])∧∃ kvs:List (Key×V),ps=kvs.map (fun kv=>(kV kv.1,kv.2))∧kvs.length≤15∧Q (.ref p) (upd H2 p (.dK (J9 [] kvs)))
theorem ziU {X:Cx} {pos:Pos} {keys:List (Option Expr)} {values:List Expr} {trs:List (TE×TE)} (h:PPs X pos keys values trs) (hall:keys.all (·.isSome)=true) (hl:keys.length=values.length) (h0:keys≠[])
    (h15:keys.length≤15):PE X (.Dict keys values pos) (zc2 trs):=by
  intro pins s σ H Q I q;have hn:=I.hok.fresh (Nat.le_refl s.heap.objs.size);have I1:=I.laid (a:=s.heap.objs.size) (o:=.dK []) (h':=s.heap.push { cls:=.type "dict", data:=.dict #[] }) (t':=s.toks) (fun _ _ q=>Heap.get?_push_of_some _ q) (Nat.le_refl _) (zmc s.heap I.big)
  refine wpAny_Dict_walk (knd:=jh X.prog X.w) hall hl h0 h15 (thn (h pins _ σ _ _ I1 (q _ hn)) fun ws s2 ⟨ps,H2,I2,rel,e,kvs,ep,lk,q2⟩=>?_)
  subst ep;obtain⟨rs,c,rk⟩:=zgC (P:=X.prog) (w:=X.w) rel;obtain⟨z,hd,vs0,r0,dd⟩:=zcV I2.hok e;cases r0;refine⟨rs,c,dd,fun h' dd' hs=>⟨.ref s.heap.objs.size,_,?_,rfl,q2⟩⟩
  have hz:(J9 [] kvs).length≤sizeLine:=by
    have h1:=zhD kvs [];rw [List.length_nil] at h1;rw [sizeLine_eq];omega
  have he:∃ q,h'.get? s.heap.objs.size=some q:=let ⟨q,_,_,hq,_⟩:=dd';⟨q,hq⟩;exact zbF I2 (by rw [e];exact True.intro) hs he (zd2 hz hd (rk.merge .nil) dd')
end L2
namespace L3
open PySem PySem.Spec PyProof.Rows L2
variable [LamW]
theorem ziY {N:List Str} {vs:List V} {j:Nat} {f:Str} {v:V} (nd:N.Nodup) (hj:N[j]?=some f) (hv:vs[j]?=some v):(N.zip vs).lookup f=some v:=by
  induction N generalizing vs j with
  | nil=>simp at hj
  | cons g N ih=>
    cases vs with
    | nil=>simp at hv
    | cons u vs=>
      obtain⟨n1,n2⟩:=List.nodup_cons.mp nd;rw [List.zip_cons_cons,List.lookup_cons];cases j with
      | zero=>cases hj;cases hv;rw [beq_self_eq_true]
      | succ j=>
        have hj':N[j]?=some f:=by simpa using hj
        rw [show(f==g)=false from beq_eq_false_iff_ne.mpr fun z=>n1 (z ▸ List.mem_of_getElem? hj')]
        exact ih n2 hj' (by simpa using hv)
theorem zor {N:List Str} {vs:List V} {j:Nat} {f:Str} {y:V} (nd:N.Nodup) (hj:N[j]?=some f) (hl:j<vs.length):putF f y (N.zip vs)=N.zip (vs.set j y):=by
  induction N generalizing vs j with
  | nil=>simp at hj
  | cons g N ih=>
    cases vs with
    | nil=>exact absurd hl (Nat.not_lt_zero _)
    | cons u vs=>
      obtain⟨n1,n2⟩:=List.nodup_cons.mp nd;rw [List.zip_cons_cons];unfold putF;cases j with
      | zero=>cases hj;rw [if_pos rfl];rfl
      | succ j=>
        have hj':N[j]?=some f:=by simpa using hj
        rw [if_neg (fun z:g=f=>n1 (z ▸ List.mem_of_getElem? hj')),ih n2 hj' (Nat.lt_of_succ_lt_succ hl)];rfl
theorem zeH {N:List Str} {vs:List V} {j:Nat} {f:Str} {v:V} (nd:N.Nodup) (hj:N[j]?=some f) (hv:vs[j]?=some v):valV ((N.map Sum.inr:List Key).zip vs) (Sum.inr f)=some v:=by
  induction N generalizing vs j with
  | nil=>simp at hj
  | cons g N ih=>
    cases vs with
    | nil=>simp at hv
    | cons u vs=>
      obtain⟨n1,n2⟩:=List.nodup_cons.mp nd;rw [List.map_cons,List.zip_cons_cons];cases j with
      | zero=>cases hj;cases hv;exact zb0 rfl
      | succ j=>
        have hj':N[j]?=some f:=by simpa using hj
        rw [zcl (fun z:(Sum.inr g:Key)=Sum.inr f=>n1 (Sum.inr.inj z ▸ List.mem_of_getElem? hj'))]
        exact ih n2 hj' (by simpa using hv)
theorem zjC {N:List Str} {vs:List V} {j:Nat} {f:Str} {y:V} (nd:N.Nodup) (hj:N[j]?=some f) (hl:j<vs.length):putK ((N.map Sum.inr:List Key).zip vs) (Sum.inr f) y=(N.map Sum.inr:List Key).zip (vs.set j y):=by
  obtain⟨v,hv⟩:∃ v,vs[j]?=some v:=⟨_,List.getElem?_eq_getElem hl⟩;unfold putK;rw [zee,zeH nd hj hv,Option.isSome_some,if_pos rfl];clear hv v
  induction N generalizing vs j with
  | nil=>simp at hj
  | cons g N ih=>
    cases vs with
    | nil=>exact absurd hl (Nat.not_lt_zero _)
    | cons u vs=>
      obtain⟨n1,n2⟩:=List.nodup_cons.mp nd;rw [List.map_cons,List.zip_cons_cons,List.map_cons];cases j with
      | zero=>
        cases hj;rw [if_pos rfl]
        show _::_=_::_
        congr 1
        refine(List.map_congr_left fun p hp=>if_neg fun z=>?_).trans (List.map_id _)
        obtain⟨m,_⟩:=List.of_mem_zip (a:=p.1) (b:=p.2) hp;obtain⟨h,h1,h2⟩:=List.mem_map.mp m;exact n1 (Sum.inr.inj (h2.trans z) ▸ h1)
      | succ j=>
        have hj':N[j]?=some f:=by simpa using hj
        rw [if_neg (fun z:(Sum.inr g:Key)=Sum.inr f=>n1 (Sum.inr.inj z ▸ List.mem_of_getElem? hj')),ih n2 hj' (Nat.lt_of_succ_lt_succ hl)];rfl
theorem zer:dN.Nodup:=by decide
theorem zeC:mN.Nodup:=by decide
section
variable {α β : Type} {f:α→List β}
theorem zP {fs:List α} {j:Nat} {x:α} {a:β} (h:fs[j]?=some x) (ha:a∈f x):a∈fs.flatMap f:=List.mem_flatMap.mpr ⟨x,List.mem_of_getElem? h,ha⟩
theorem zkt {fs:List α} {a:β} (h:a∈fs.flatMap f):∃ (j:Nat) (x:α),fs[j]?=some x∧a∈f x:=by
  obtain⟨x,h1,h2⟩:=List.mem_flatMap.mp h;obtain⟨j,hj⟩:=List.getElem?_of_mem h1;exact⟨j,x,hj,h2⟩
theorem zaB {fs:List α} (nd:(fs.flatMap f).Nodup) {j k:Nat} {x y:α} {a:β} (hj:fs[j]?=some x) (hk:fs[k]?=some y) (hx:a∈f x) (hy:a∈f y):j=k:=by
  induction fs generalizing j k with
  | nil=>simp at hj
  | cons z r ih=>
    rw [List.flatMap_cons,List.nodup_append] at nd;obtain⟨_,n2,n3⟩:=nd;cases j with
    | zero=>
      cases hj;cases k with
      | zero=>rfl
      | succ k=>exact absurd rfl (n3 a hx a (zP (j:=k) (by simpa using hk) hy))
    | succ j=>
      cases k with
      | zero=>cases hk;exact absurd rfl (n3 a hy a (zP (j:=j) (by simpa using hj) hx))
      | succ k=>rw [ih n2 (j:=j) (k:=k) (by simpa using hj) (by simpa using hk)]
theorem JP {fs:List α} {j:Nat} {y:α} {a:β} (h:a∈(fs.set j y).flatMap f):a∈f y∨∃ (k:Nat) (x:α),k≠j∧fs[k]?=some x∧a∈f x:=by
  obtain⟨k,x,h1,h2⟩:=zkt h
  rcases zO h1 with ⟨rfl,rfl,_⟩|⟨n,q⟩
  · exact .inl h2
  · exact .inr ⟨k,x,Ne.symm n,q,h2⟩
theorem zds {fs:List α} {j:Nat} {x y:α} (nd:(fs.flatMap f).Nodup) (hj:fs[j]?=some x) (hy:(f y).Nodup) (hn:∀ a∈f y,a∈f x∨a∉fs.flatMap f):((fs.set j y).flatMap f).Nodup:=by
  induction fs generalizing j with
  | nil=>simp at hj
  | cons z r ih=>
    have nd':=nd;rw [List.flatMap_cons,List.nodup_append] at nd;obtain⟨n1,n2,n3⟩:=nd;cases j with
    | zero=>
      cases hj;rw [List.set_cons_zero,List.flatMap_cons,List.nodup_append]
      refine⟨hy,n2,fun a ha b hb z=>?_⟩
      rw [←z] at hb
      rcases hn a ha with q|q
      · exact n3 a q a hb rfl
      · exact q (by rw [List.flatMap_cons];exact List.mem_append_right _ hb)
    | succ j=>
      have hj':r[j]?=some x:=by simpa using hj
      rw [List.set_cons_succ,List.flatMap_cons,List.nodup_append];refine⟨n1,ih n2 hj' fun a ha=>(hn a ha).imp id fun q z=>q (by rw [List.flatMap_cons];exact List.mem_append_right _ z),fun a ha b hb z=>?_⟩
      rw [←z] at hb
      rcases JP hb with q|⟨k,u,_,h1,h2⟩
      · rcases hn a q with q|q
        · exact n3 a ha a (zP hj' q) rfl
        · exact q (by rw [List.flatMap_cons];exact List.mem_append_left _ ha)
      · exact n3 a ha a (zP h1 h2) rfl
end
section
variable {K:PySem.W.Frag} {H0 G0:Hp} {ρ : Env3} {σ : L2.St} {G H G' H':Hp}
theorem Gr.barred {as:List Addr} (s:Sub G H) (hG:∀ a∈as,G a=none) (hs:∀ b o,b∉as→H b=some o→H' b=some o):Gr G (bar H as) G H':=by
  refine⟨Same.refl _,fun b o e=>.inl ?_,⟨fun b o e=>hs b o (fun z=>by rw [hG b z] at e;cases e) (s.s b o e),s.cl⟩,fun _ _ e=>.inl e⟩
  by_cases hb:b∈as
  · rw [zbr hb] at e;cases e
  · rw [jF hb] at e;exact hs b o hb e
theorem jE (F:Fr3 K H0 G0 ρ σ G H) {i:Nat} {o:Ob} (h:ρ[i]?=some (some (.ob o))):σ[i]?=some (some (.ref o.a))∧ObAt K G H o:=by
  obtain⟨v,h1,h2⟩:=F.slot i _ h;cases h2 with
  | ob w=>exact⟨h1,w⟩
theorem ObAt.up {o:Ob} {vs vs':List V} {j:Nat} {fl fl':Fl} {v:V} (nd:o.as.Nodup) (hG:G o.a=none) (h3:o.fs.length=6) (h4:∀ (j:Nat) (fl:Fl),o.fs[j]?=some fl→∃ v,vs[j]?=some v∧FlAt K G H v fl) (hj:o.fs[j]?=some fl)
    (ht:H' o.a=some (obO o.k vs')) (hl:vs'.length=6) (hv:vs'[j]?=some v) (hq:∀ k,k≠j→vs'[k]?=vs[k]?) (hf:FlAt K G H' v fl') (hh:∀ b∈o.as,b≠o.a→b∉fl.as→H' b=H b) (hn:∀ a∈fl'.as,a∈fl.as∨a∉o.as) (hd:fl'.as.Nodup):ObAt K G H' ⟨o.k,o.a,o.fs.set j fl'⟩:=by
  obtain⟨n1,n2⟩:=List.nodup_cons.mp nd;refine⟨⟨vs',ht,hl,by rw [List.length_set];exact h3,fun k f' e=>?_⟩,hG,List.nodup_cons.mpr ⟨fun z=>?_,zds n2 hj hd fun a ha=>(hn a ha).imp id fun q z=>q (List.mem_cons_of_mem _ z)⟩⟩
  · rcases zO e with ⟨rfl,rfl,_⟩|⟨n,q⟩
    · exact⟨v,hv,hf⟩
    · obtain⟨u,h5,h6⟩:=h4 k f' q
      refine⟨u,(hq k (Ne.symm n)).trans h5,h6.mv (Same.refl _) fun a ha=>⟨?_,rfl⟩⟩
      refine hh a (List.mem_cons_of_mem _ (zP q ha)) (fun z=>n1 (z ▸ zP q ha)) fun z=>n (zaB n2 hj q z ha)
  · rcases JP z with z|⟨k,x,_,h5,h6⟩
    · rcases hn _ z with z|z
      · exact n1 (zP hj z)
      · exact z List.mem_cons_self
    · exact n1 (zP h5 h6)
theorem Fr3.up (F:Fr3 K H0 G0 ρ σ G H) {i j:Nat} {o:Ob} {vs vs':List V} {fl fl':Fl} {v:V} (hi:ρ[i]?=some (some (.ob o))) (h1:H o.a=some (obO o.k vs)) (h3:o.fs.length=6) (h4:∀ (j:Nat) (fl:Fl),o.fs[j]?=some fl→∃ v,vs[j]?=some v∧FlAt K G H v fl) (hj:o.fs[j]?=some fl)
    (ht:H' o.a=some (obO o.k vs')) (hl:vs'.length=6) (hv:vs'[j]?=some v) (hq:∀ k,k≠j→vs'[k]?=vs[k]?) (hf:FlAt K G H' v fl') (hh:∀ b u,b≠o.a→b∉fl.as→H b=some u→H' b=some u) (hn:∀ a∈fl'.as,a∈fl.as∨H a=none) (hd:fl'.as.Nodup):Fr3 K H0 G0 (ρ.set i (some (.ob ⟨o.k,o.a,o.fs.set j fl'⟩))) σ G H':=by
  obtain⟨hσ,w⟩:=jE F hi;have sub:∀ a∈o.a::fl.as,a∈o.as:=fun a h=>by
    rcases List.mem_cons.mp h with h|h
    · rw [h];exact List.mem_cons_self
    · exact List.mem_cons_of_mem _ (zP hj h)
  have old:∀ b∈o.as,H b≠none:=fun b h z=>by
    obtain⟨⟨u,e,_⟩,_⟩:=w.has h;rw [e] at z;cases z
  refine F.led (as:=o.a::fl.as) hi hσ sub (Gr.barred F.sub (fun a h=>(w.has (sub a h)).2) fun b u nb e=>hh b u (fun z=>nb (z ▸ List.mem_cons_self)) (fun z=>nb (List.mem_cons_of_mem _ z)) e) (.ob (ObAt.up w.nd w.topG h3 h4 hj ht hl hv hq hf (fun b hb n1 n2=>?_) (fun a ha=>(hn a ha).imp id fun q z=>old a z q) hd)) fun a h=>?_
  · obtain⟨⟨u,e,_⟩,_⟩:=w.has hb
    rw [e,hh b u n1 n2 e]
  · rcases List.mem_cons.mp h with h|h
    · rw [h];exact .inl List.mem_cons_self
    · rcases JP h with h|⟨k,x,_,h5,h6⟩
      · rcases hn a h with h|h
        · exact .inl (List.mem_cons_of_mem _ (zP hj h))
        · exact .inr h
      · exact .inl (List.mem_cons_of_mem _ (zP h5 h6))
end
variable [LamW]
def atF (o:Option (Option Cl)) (kd:Bool) (j:Nat) (P:Cl→Prop):Prop:=match o with
  | some (some (.ob o))=>o.k.isSome=kd∧optP o.fs[j]? fun fl=>optP fl.c P
  | some (some (.fo k ds))=>k.isSome=kd∧optP ds[j]? fun d=>P (.sh (zx d) d)
  | _=>False
theorem zfh {o:Option (Option Cl)} {kd:Bool} {j:Nat} {P:Cl→Prop} (h:atF o kd j P):(∃ b fl c,o=some (some (.ob b))∧b.k.isSome=kd∧b.fs[j]?=some fl∧fl.c=some c∧P c)∨∃ k ds d,o=some (some (.fo k ds))∧k.isSome=kd∧ds[j]?=some d∧P (.sh (zx d) d):=by
  unfold atF at h
  split at h
  · obtain⟨h1,h⟩:=h
    obtain⟨fl,h2,h⟩:=z8 h;obtain⟨c,h3,h⟩:=z8 h;exact .inl ⟨_,fl,c,rfl,h1,h2,h3,h⟩
  · obtain⟨h1,h⟩:=h
    obtain⟨d,h2,h⟩:=z8 h;exact .inr ⟨_,_,d,rfl,h1,h2,h⟩
  · exact h.elim
theorem zh5 {o:Option (Option Cl)} {kd:Bool} {j:Nat} {P Q:Cl→Prop} (i:∀ c,P c→Q c) (h:atF o kd j P):atF o kd j Q:=by
  rcases zfh h with ⟨b,fl,c,rfl,h1,h2,h3,h⟩|⟨k,ds,d,rfl,h1,h2,h⟩
  · exact⟨h1,by rw [h2];show optP fl.c Q;rw [h3];exact i _ h⟩
  · exact⟨h1,by rw [h2];exact i _ h⟩
def atB (o:Option (Option Cl)) (P:Ob→Prop):Prop:=match o with
  | some (some (.ob o))=>P o
  | _=>False
theorem jf {o:Option (Option Cl)} {P:Ob→Prop} (h:atB o P):∃ b,o=some (some (.ob b))∧P b:=by
  unfold atB at h
  split at h
  · exact⟨_,rfl,h⟩
  · exact h.elim
def flO (o:Option Fl) (P:Addr→List D→Prop):Prop:=match o with
  | some (.ow l ds)=>P l ds
  | _=>False
theorem zaV {o:Option Fl} {P:Addr→List D→Prop} (h:flO o P):∃ l ds,o=some (.ow l ds)∧P l ds:=by
  unfold flO at h
  split at h
  · exact⟨_,_,rfl,h⟩
  · exact h.elim
def flT (o:Option Fl) (P:Addr→List (Addr×Addr)→List (D×List D)→Prop):Prop:=match o with
  | some (.tp l qs ms)=>P l qs ms
  | _=>False
theorem zcg {o:Option Fl} {P:Addr→List (Addr×Addr)→List (D×List D)→Prop} (h:flT o P):∃ l qs ms,o=some (.tp l qs ms)∧P l qs ms:=by
  unfold flT at h
  split at h
  · exact⟨_,_,_,rfl,h⟩
  · exact h.elim
def Ob.put (o:Ob) (j:Nat) (fl:Fl):Ob:=⟨o.k,o.a,o.fs.set j fl⟩
section
variable {X:Cx} {H0:Hp} {e k fe:Expr} {pos np:Pos} {x f:Str} {i j:Nat} {kd:Bool}
def tF (kd:Bool) (i j:Nat):TE:=fun σ H Q=>∃ a k vs v,σ[i]?=some (some (.ref a))∧H a=some (obO k vs)∧k.isSome=kd∧vs[j]?=some v∧Q v H
theorem zH (hN:X.N[i]?=some x) (hv:Vis X.env.scope x) (hj:dN[j]?=some f) (hc:Cls X.K LamW.C) (hn:jd X.K LamW.C f) (hb:attributeBase (.Name x np) f X.env (eval (.Name x np) X.env)=eval (.Name x np) X.env:=by rfl) (hd:(x==("__debug__" : Str))=false:=by decide) (hcd:(x==("__classdict__" : Str))=false:=by decide):PE X (.Attribute (.Name x np) f pos) (tF true i j):=
  PE.imp (zjE (z6 hN hv hd hcd) hb) fun σ H Q ⟨a,k,vs,v,h1,h2,h3,h5,q⟩=>by
    cases k with
    | none=>cases h3
    | some dx=>exact⟨.ref a,h1,a,_,dx,_,v,rfl,h2,hc,hn,ziY zer hj h5,q⟩
theorem zq {c:Nat} {cp:Pos} (hu:X.A.units+1<cLine) (hN:X.N[i]?=some x) (hv:Vis X.env.scope x) (hj:mN[j]?=some f) (hs:NoSl (.Constant (.str f) c cp):=by exact fun _ _=>rfl) (hd:(x==("__debug__" : Str))=false:=by decide) (hcd:(x==("__classdict__" : Str))=false:=by decide):PE X (.Subscript (.Name x np) (.Constant (.str f) c cp) pos) (tF false i j):=
  PE.imp (zj2 hu (z6 hN hv hd hcd) ZK hs) fun σ H Q ⟨a,k,vs,v,h1,h2,h3,h5,q⟩=>by
    cases k with
    | some dx=>cases h3
    | none=>
      have g:=DGet.k (k:=Sum.inr f) h2;rw [zeH zeC hj h5] at g;exact⟨.ref a,h1,a,v,rfl,g,q⟩
def fld3 (kd:Bool) (i j:Nat):TE3:=fun ρ Q=>atF ρ[i]? kd j Q
theorem zm (hf:PE X fe (tF kd i j)):PE3 X H0 fe (fld3 kd i j):=by
  refine⟨fun ρ Q Q' h q=>zh5 h q,PE.imp hf fun σ H Q=>el5 fun G0 ρ G F q=>?_⟩
  rcases zfh q with ⟨b,fl,c,e1,h1,h2,h3,q⟩|⟨k,ds,d,e1,h1,h2,q⟩
  · obtain⟨hσ,w⟩:=jE F e1
    obtain⟨vs,a1,a2,a3,a4⟩:=w.top;obtain⟨v,b1,b2⟩:=a4 j fl h2;refine⟨b.a,b.k,vs,v,hσ,a1,h1,b1,q v G H (Gr.refl F.sub) ?_⟩;cases b2 with
    | sh r=>cases h3;exact .sh ⟨r,fun hf=>Jg hf r⟩
    | ow p r n=>cases h3;exact .ow p ⟨r,fun hf=>zeK hf r⟩ n
    | tp t=>cases h3
  · obtain⟨v,h4,w⟩:=F.slot i _ e1
    cases w with
    | fo p l r=>
      obtain⟨u,b1,b2⟩:=r.get h2;exact⟨_,k,_,u,h4,F.sub.s _ _ p,h1,b1,q u G H (Gr.refl F.sub) (.sh ⟨b2,fun hf=>Jg hf b2⟩)⟩
def ZU (kd:Bool) (i j:Nat):TE3:=fun ρ Q=>atB ρ[i]? fun o=>o.k.isSome=kd∧flT o.fs[j]? fun _ _ ms=>Q (.sh true (.int ms.length))
theorem zlg {lp:Pos} (hf:PE X fe (tF kd i j)) (hg:Gl X "len") (hm:X.mg "len" = none) (he:starEach [fe] X.env=(false,eval fe X.env)::starEach [] X.env:=by rfl) (hpl:(backTo pos (starEach [] X.env)).any (·.1)=false:=by rfl):PE3 X H0 (.Call (.Name "len" lp) [fe] [] pos) (ZU kd i j):=by
  refine⟨fun ρ Q Q' h q=>?_,PE.imp (zcB ze6 hg hm PySem.boot_len (zR hf zQ he) (by decide) (by decide) he hpl) fun σ H Q=>el5 fun G0 ρ G F q=>?_⟩
  · obtain⟨o,e1,h1,q⟩:=jf q
    obtain⟨l,qs,ms,e2,q⟩:=zcg q;unfold ZU;rw [e1];refine⟨h1,?_⟩;rw [e2];exact h _ q
  · obtain⟨o,e1,h1,q⟩:=jf q
    obtain⟨l,qs,ms,e2,q⟩:=zcg q;obtain⟨hσ,w⟩:=jE F e1;obtain⟨vs,a1,a2,a3,a4⟩:=w.top;obtain⟨v,b1,b2⟩:=a4 j _ e2;cases b2 with
    | tp t=>
      refine⟨o.a,o.k,vs,_,hσ,a1,h1,b1,l,_,rfl,.inl (SqL.of t.top),?_⟩
      rw [List.length_map,t.len];exact q _ G H (Gr.refl F.sub) (.sh (.sc rfl (.int _)))
theorem ZF {K:PySem.W.Frag} {G0:Hp} {ρ : Env3} {σ : L2.St} {G H:Hp} (F:Fr3 K H0 G0 ρ σ G H) {o:Ob} {l:Addr} {ds:List D} (h:ρ[i]?=some (some (.ob o))) (hj:o.fs[j]?=some (.ow l ds)) :
    ∃ vs us,σ[i]?=some (some (.ref o.a))∧H o.a=some (obO o.k vs)∧vs.length=6∧vs[j]?=some (.ref l)∧H l=some (.lst us)∧RdVs K G us ds∧
      ∀ {H':Hp} {zs:List V} {es:List D},RdVs K G zs es→H'=upd H l (.lst zs)→Fr3 K H0 G0 (ρ.set i (some (.ob (o.put j (.ow l es))))) σ G H':=by
  obtain⟨hσ,w⟩:=jE F h;obtain⟨vs,a1,a2,a3,a4⟩:=w.top;obtain⟨v,b1,b2⟩:=a4 j _ hj;cases b2 with
  | ow p r n=>
    refine⟨vs,_,hσ,a1,a2,b1,p,r,fun {H' zs es} rz hH=>?_⟩
    have nl:o.a≠l:=fun z=>by rw [←z,a1] at p;exact za1.2.2 _ (Option.some.inj p)
    exact F.up h a1 a3 a4 hj (by rw [hH,zd nl];exact a1) a2 b1 (fun _ _=>rfl) (.ow (by rw [hH,zh]) rz n) (fun b u _ nb e=>by rw [hH,zd (fun z=>nb (by rw [z];exact List.mem_cons_self))];exact e) (fun a ha=>.inl ha) (List.nodup_cons.mpr ⟨by simp,List.nodup_nil⟩)
def zaA (kd:Bool) (i j:Nat) (te:TE3):TS3:=fun A ρ=>atB ρ[i]? fun o=>o.k.isSome=kd∧flO o.fs[j]? fun l ds=>te ρ fun c=>asS c fun _ d=>ds.length<sizeLine∧A.nx (ρ.set i (some (.ob (o.put j (.ow l (ds++[d]))))))
theorem Ji {te:TE3} {apos cpos:Pos} (hfe:PE X fe (tF kd i j)) (he:PE3 X H0 e te)
    (hb:attributeBase fe "append" X.env (eval fe X.env)=eval fe X.env:=by rfl)
    (hf:((backTo cpos (starEach [e] X.env)).all (fun x=>!x.1)&&(backToKw cpos (keywordEach [] X.env)).all (fun x=>x.1.isSome)&&decide ([e].length+([]:List Keyword).length+(if([]:List Keyword).isEmpty then 0 else 1)<30))=true:=by rfl)
    (hl:(apos.endLine==cpos.line)=true:=by rfl) (hs:starEach [e] X.env=(false,eval e X.env)::starEach [] X.env:=by rfl) (hp:(backTo cpos (starEach [] X.env)).any (·.1)=false:=by rfl)
    (hw:swapsWith (.Call (.Attribute fe "append" apos) [e] [] cpos) none pos.line X.env=pure false:=by rfl):PS3 X H0 (.Expr (.Call (.Attribute fe "append" apos) [e] [] cpos) pos) (zaA kd i j te):=by
  refine PS.imp (Zr (zai hfe (zR he.ok zQ hs) hb hf hl hs hp) hw) fun B σ H hyp=>?_
  obtain⟨G0,A,ρ,G,F,q,L⟩:=hyp;obtain⟨o,hi,hk,q⟩:=jf q;obtain⟨l,ds,hj,q⟩:=zaV q;obtain⟨vs,us,h1,h2,h3,h4,h5,r,_⟩:=ZF F hi hj;refine⟨o.a,o.k,vs,.ref l,h1,h2,hk,h4,zaw h5,G0,ρ,G,F,he.mono ρ _ _ (fun c q v G' H' g w=>?_) q⟩
  obtain⟨f',d,hc,hz,q'⟩:=jS q;subst hc;obtain⟨vs',us',_,_,_,_,k5,r',up⟩:=ZF (F.gr g) hi hj;exact⟨l,us',v,rfl,rfl,k5,by rw [r'.length];exact hz,L.nx _ _ _ _ (up (r'.append (.cons (zi w).rd .nil)) rfl) q'⟩
def zag (kd:Bool) (i j:Nat) (tk te:TE3):TS3:=fun A ρ=>te ρ fun c=>atB ρ[i]? fun o=>o.k.isSome=kd∧flO o.fs[j]? fun l ds=>tk ρ fun k=>asS c fun _ d=>asI k fun n=>∃ m,ixN ds.length n=some m∧A.nx (ρ.set i (some (.ob (o.put j (.ow l (ds.set m d))))))
theorem JV {tk te:TE3} {spos:Pos} (hfe:PE X fe (tF kd i j)) (hk:PE3 X H0 k tk) (he:PE3 X H0 e te)
    (hs:swapsWithSole [.Subscript fe k spos] e pos.line X.env=pure false:=by rfl) (hw:swappedStores [.Subscript fe k spos] e X.env=pure none:=by rfl)
    (h1:(assignEach [.Subscript fe k spos] X.env).map (·.2)=[assign (.Subscript fe k spos) X.env]:=by rfl)
    (ha:∀ v,assign (.Subscript fe k spos) X.env v=(do
      let ov ←holding [v] (eval fe X.env)
      let iv ←holding [v,ov] (eval k X.env)
      standAt spos
      holding [v,ov,iv] (setItem ov iv v)
      release [v,ov,iv] []):=by intro _;rfl):PS3 X H0 (.Assign [.Subscript fe k spos] e pos) (zag kd i j tk te):=by
  refine PS.imp (zbZ he.ok (zcs hfe hk.ok zbL ha) hs hw h1) fun B σ H hyp=>?_
  obtain⟨G0,A,ρ,G,F,q,L⟩:=hyp;refine⟨G0,ρ,G,F,he.mono ρ _ _ (fun c q v G1 H1 g1 w1=>?_) q⟩
  obtain⟨o,hi,hkd,q⟩:=jf q;obtain⟨l,ds,hj,q⟩:=zaV q;obtain⟨vs,us,h1,h2,h3,h4,h5,r,_⟩:=ZF (F.gr g1) hi hj;refine⟨o.a,o.k,vs,.ref l,h1,h2,hkd,h4,G0,ρ,G1,F.gr g1,hk.mono ρ _ _ (fun kc q kv G2 H2 g2 w2=>?_) q⟩
  obtain⟨f',d,hc,q1⟩:=jS q;obtain⟨n,hn,m,hm,q'⟩:=jJ q1;subst hc hn;have rk:=(zi w2).rd;cases rk;obtain⟨vs',us',_,_,_,_,k5,r',up⟩:=ZF ((F.gr g1).gr g2) hi hj;exact⟨l,us',n,m,rfl,rfl,k5,by rw [r'.length];exact hm,L.nx _ _ _ _ (up (r'.set (jx g2.g (zi w1).rd) m) rfl) q'⟩
def zbm (kd:Bool) (i j:Nat) (tk te:TE3):TS3:=fun A ρ=>atB ρ[i]? fun o=>o.k.isSome=kd∧flO o.fs[j]? fun l ds=>tk ρ fun k=>asI k fun n=>0≤n∧∃ m,ds[n.toNat]?=some (.int m)∧te ρ fun c=>asI c fun a=>A.nx (ρ.set i (some (.ob (o.put j (.ow l (ds.set n.toNat (.int (m+a))))))))
theorem zkv {tk te:TE3} {spos:Pos} (hfe:PE X fe (tF kd i j)) (hk:PE3 X H0 k tk) (he:PE3 X H0 e te)
    (ha:∀ ov iv new,augStore k ov iv new=(do holding [new,ov,iv] (setItem ov iv new);release [new,ov,iv] [];pure .next):=by intros;rfl):PS3 X H0 (.AugAssign (.Subscript fe k spos) .Add e pos) (zbm kd i j tk te):=by
  refine PS.imp (znH hfe hk.ok zog he.ok zkD zbL ha) fun B σ H hyp=>?_
  obtain⟨G0,A,ρ,G,F,q,L⟩:=hyp;obtain⟨o,hi,hkd,q⟩:=jf q;obtain⟨l,ds,hj,q⟩:=zaV q;obtain⟨vs,us,h1,h2,h3,h4,h5,r,_⟩:=ZF F hi hj;refine⟨o.a,o.k,vs,.ref l,h1,h2,hkd,h4,G0,ρ,G,F,hk.mono ρ _ _ (fun kc q0 kv G1 H1 g1 w1=>?_) q⟩
  obtain⟨n,hc,h0,m,hm,q⟩:=jJ q0;clear q0;subst hc;have rk:=zy (zi w1).rd;subst rk;obtain⟨xv,hx1,hx2⟩:=RdVs.get r hm;have hx3:=zy hx2;subst hx3;have hlt:n.toNat<us.length:=(List.getElem?_eq_some_iff.mp hx1).1;refine⟨l,us,n,.int m,rfl,rfl,h0,SqL.of (g1.h.at h5),?_,G0,ρ,G1,F.gr g1,he.mono ρ _ _ (fun c q1 v G2 H2 g2 w2=>?_) q⟩
  · unfold atI
    rw [jD h0 (by omega)]
    exact hx1
  obtain⟨a,hc,q⟩:=jJ q1;clear q1;subst hc;have rv:=zy (zi w2).rd;subst rv;obtain⟨vs',us',_,_,_,_,k5,r',up⟩:=ZF ((F.gr g1).gr g2) hi hj;have k6:=g2.h.at (g1.h.at h5);rw [k5] at k6;cases k6;refine⟨m,a,rfl,rfl,l,us,n,n.toNat,rfl,rfl,k5,jD h0 (by omega),L.nx _ _ _ _ (up (r'.set (.int (m+a)) n.toNat) rfl) q⟩
def tFS (kd:Bool) (i j:Nat) (te:TE):TS:=fun D σ H=>te σ H fun v H1=>∃ a k vs,σ[i]?=some (some (.ref a))∧H1 a=some (obO k vs)∧k.isSome=kd∧vs.length=6∧D.nx σ (upd H1 a (obO k (vs.set j v)))
def MonE (te:TE):Prop:=∀ σ H (Q Q':VK),(∀ v H,Q v H→Q' v H)→te σ H Q→te σ H Q'
theorem six {vs:List V} (h:vs.length=6):(dN.zip vs).length<1000∧((mN.map Sum.inr:List Key).zip vs).length<sizeLine:=by
  rw [List.length_zip,List.length_zip,h,List.length_map];exact⟨by decide,by decide⟩
theorem Ju {N:List Str} (h:N[j]?=some f) (hN:N.length=6):j<6:=by rw [←hN];exact(List.getElem?_eq_some_iff.mp h).1
theorem ze9 {te:TE} {pos':Pos} (hN:X.N[i]?=some x) (hv:Vis X.env.scope x) (hj:dN[j]?=some f) (hc:Cls X.K LamW.C) (hn:jd X.K LamW.C f) (he:PE X e te) (hm:MonE te) (hs:swapsWith e (some (.Attribute (.Name x np) f pos')) pos.line X.env=pure false:=by rfl) (hd:(x==("__debug__" : Str))=false:=by decide) (hcd:(x==("__classdict__" : Str))=false:=by decide):PS X (.Assign [.Attribute (.Name x np) f pos'] e pos) (tFS true i j te):=
  PS.imp (JH (z6 hN hv hd hcd) he hs) fun B σ H q=>hm σ H _ _ (fun v H1 ⟨a,k,vs,h1,h2,h3,h4,q⟩=>by
    cases k with
    | none=>cases h3
    | some dx=>exact⟨.ref a,h1,a,_,dx,_,rfl,h2,hc,hn,(six h4).1,by rw [zor zer hj (by rw [h4];exact Ju hj rfl)];exact q⟩) q
theorem zen {te:TE} {pos' cp:Pos} {c:Nat} (hu:X.A.units+1<cLine) (hN:X.N[i]?=some x) (hv:Vis X.env.scope x) (hj:mN[j]?=some f) (he:PE X e te) (hm:MonE te) (hs:swapsWith e (some (.Subscript (.Name x np) (.Constant (.str f) c cp) pos')) pos.line X.env=pure false:=by rfl) (hd:(x==("__debug__" : Str))=false:=by decide) (hcd:(x==("__classdict__" : Str))=false:=by decide):PS X (.Assign [.Subscript (.Name x np) (.Constant (.str f) c cp) pos'] e pos) (tFS false i j te):=
  PS.imp (ziT hu (z6 hN hv hd hcd) ZK he hs) fun B σ H q=>hm σ H _ _ (fun v H1 ⟨a,k,vs,h1,h2,h3,h4,q⟩=>by
    cases k with
    | some dx=>cases h3
    | none=>exact⟨.ref a,h1,a,_,rfl,DPut.k (k:=Sum.inr f) h2 (six h4).2,by rw [zjC zeC hj (by rw [h4];exact Ju hj rfl)];exact q⟩) q
theorem monE {te:TE3} (he:PE3 X H0 e te):MonE (jk X.K H0 te):=fun σ H Q Q' h=>el5 fun G0 ρ G F q=>⟨G0,ρ,G,F,he.mono ρ _ _ (fun c k v G' H' g w=>h _ _ (k v G' H' g w)) q⟩
theorem monN {tn:TN3} (he:PN3 X H0 e tn):MonE (zab X.K H0 tn):=fun σ H Q Q' h=>el5 fun G0 ρ G F q=>⟨G0,ρ,G,F,he.mono ρ _ _ (fun f ds k l vs G' H' g hl r=>h _ _ (k l vs G' H' g hl r)) q⟩
theorem zg7 {K:PySem.W.Frag} {G0:Hp} {ρ : Env3} {σ : L2.St} {G H:Hp} (F:Fr3 K H0 G0 ρ σ G H) {o:Ob} (h:ρ[i]?=some (some (.ob o))) (hj:j<6) :
    ∃ vs,σ[i]?=some (some (.ref o.a))∧H o.a=some (obO o.k vs)∧vs.length=6∧
      ∀ {H':Hp} {v:V} {fl:Fl},(∀ b u,H b=some u→H' b=some u)→FlAt K G (upd H' o.a (obO o.k (vs.set j v))) v fl→(∀ a∈fl.as,H a=none)→fl.as.Nodup→Fr3 K H0 G0 (ρ.set i (some (.ob (o.put j fl)))) σ G (upd H' o.a (obO o.k (vs.set j v))):=by
  obtain⟨hσ,w⟩:=jE F h;obtain⟨vs,a1,a2,a3,a4⟩:=w.top;obtain⟨fl0,h0⟩:∃ fl,o.fs[j]?=some fl:=⟨_,List.getElem?_eq_getElem (by rw [a3];exact hj)⟩
  exact⟨vs,hσ,a1,a2,fun {H' v fl} hh hf hn hd=>F.up h a1 a3 a4 h0 zh (by rw [List.length_set];exact a2) (List.getElem?_set_self (by rw [a2];exact hj)) (fun k n=>List.getElem?_set_ne (Ne.symm n)) hf (fun b u n _ e=>by rw [zd n];exact hh b u e) (fun a ha=>.inr (hn a ha)) hd⟩
def JY (kd:Bool) (i j:Nat) (te:TE3):TS3:=fun A ρ=>te ρ fun c=>asS c fun _ d=>atB ρ[i]? fun o=>o.k.isSome=kd∧A.nx (ρ.set i (some (.ob (o.put j (.sh d)))))
theorem zfI {st:Stmt} {te:TE3} (hst:PS X st (tFS kd i j (jk X.K H0 te))) (he:PE3 X H0 e te) (hj:j<6:=by decide):PS3 X H0 st (JY kd i j te):=PS.imp hst fun B σ H=>el7 fun G0 A ρ G F q L=>⟨G0,ρ,G,F,he.mono ρ _ _ (fun c q v G1 H1 g1 w1=>by
  obtain⟨f,d,rfl,q⟩:=jS q;obtain⟨o,hi,hk,q⟩:=jf q;obtain⟨vs,h1,h2,h3,up⟩:=zg7 (F.gr g1) hi hj;exact⟨o.a,o.k,vs,h1,h2,hk,h3,L.nx _ _ _ _ (up (fun _ _ e=>e) (.sh (zi w1).rd) (fun a z=>by cases z) List.nodup_nil) q⟩) q⟩
def JK (kd:Bool) (i j:Nat) (tn:TN3):TS3:=fun A ρ=>tn ρ fun _ ds=>atB ρ[i]? fun o=>o.k.isSome=kd∧∀ l,A.nx (ρ.set i (some (.ob (o.put j (.ow l ds)))))
def ftp3 (kd:Bool) (i j:Nat) (tn:TN3):TS3:=fun A ρ=>tn ρ fun _ ds=>atB ρ[i]? fun o=>o.k.isSome=kd∧ds=[]∧∀ l,A.nx (ρ.set i (some (.ob (o.put j (.tp l [] [])))))
theorem zeZ {K:PySem.W.Frag} {G0:Hp} {ρ : Env3} {σ : L2.St} {G H:Hp} (F:Fr3 K H0 G0 ρ σ G H) {o:Ob} (h:ρ[i]?=some (some (.ob o))) (hj:j<6) {l:Addr} {us:List V} {f:Bool} {ds:List D} (hl:H l=none) (r:Rfs K H0 G f us ds) :
    ∃ vs,σ[i]?=some (some (.ref o.a))∧upd H l (.lst us) o.a=some (obO o.k vs)∧vs.length=6∧∀ fl,fl=.ow l ds∨(ds=[]∧fl=.tp l [] [])→Fr3 K H0 G0 (ρ.set i (some (.ob (o.put j fl)))) σ G (upd (upd H l (.lst us)) o.a (obO o.k (vs.set j (.ref l)))):=by
  obtain⟨vs,h1,h2,h3,up⟩:=zg7 F h hj;have hl':o.a≠l:=zG h2 hl;refine⟨vs,h1,by rw [zd hl'];exact h2,h3,fun fl hfl=>up (fun b u e=>by rw [zd (zG e hl)];exact e) ?_ ?_ ?_⟩
  · have hu:upd (upd H l (.lst us)) o.a (obO o.k (vs.set j (.ref l))) l=some (.lst us):=by rw [zd (Ne.symm hl'),zh]
    rcases hfl with rfl|⟨rfl,rfl⟩
    · exact .ow hu r.rd (F.sub.free hl)
    · cases r.rd
      exact .tp ⟨hu,F.sub.free hl,rfl,fun k q m e _=>by simp at e⟩
  · intro a ha
    rcases hfl with rfl|⟨_,rfl⟩<;>(rw [List.mem_singleton.mp ha];exact hl)
  · rcases hfl with rfl|⟨_,rfl⟩<;>exact List.nodup_cons.mpr ⟨by simp,List.nodup_nil⟩
theorem zeW {st:Stmt} {tn:TN3} (hst:PS X st (tFS kd i j (zab X.K H0 tn))) (he:PN3 X H0 e tn) (hj:j<6:=by decide):PS3 X H0 st (JK kd i j tn):=PS.imp hst fun B σ H=>el7 fun G0 A ρ G F q L=>⟨G0,ρ,G,F,he.mono ρ _ _ (fun f ds q l us G1 H1 g1 hl r=>by
  obtain⟨o,hi,hk,q⟩:=jf q;obtain⟨vs,h1,h2,h3,up⟩:=zeZ (F.gr g1) hi hj hl r;exact⟨o.a,o.k,vs,h1,h2,hk,h3,L.nx _ _ _ _ (up _ (.inl rfl)) (q l)⟩) q⟩
theorem zoN {st:Stmt} {tn:TN3} (hst:PS X st (tFS kd i j (zab X.K H0 tn))) (he:PN3 X H0 e tn) (hj:j<6:=by decide):PS3 X H0 st (ftp3 kd i j tn):=PS.imp hst fun B σ H=>el7 fun G0 A ρ G F q L=>⟨G0,ρ,G,F,he.mono ρ _ _ (fun f ds q l us G1 H1 g1 hl r=>by
  obtain⟨o,hi,hk,hd,q⟩:=jf q;obtain⟨vs,h1,h2,h3,up⟩:=zeZ (F.gr g1) hi hj hl r;exact⟨o.a,o.k,vs,h1,h2,hk,h3,L.nx _ _ _ _ (up _ (.inr ⟨hd,rfl⟩)) (q l)⟩) q⟩
theorem ZE {te:TE3} {pos':Pos} (hN:X.N[i]?=some x) (hv:Vis X.env.scope x) (hj:dN[j]?=some f) (hc:Cls X.K LamW.C) (hn:jd X.K LamW.C f) (he:PE3 X H0 e te) (hs:swapsWith e (some (.Attribute (.Name x np) f pos')) pos.line X.env=pure false:=by rfl) (hd:(x==("__debug__" : Str))=false:=by decide) (hcd:(x==("__classdict__" : Str))=false:=by decide):PS3 X H0 (.Assign [.Attribute (.Name x np) f pos'] e pos) (JY true i j te):=zfI (ze9 hN hv hj hc hn he.ok (monE he) hs hd hcd) he (Ju hj rfl)
theorem zhd {te:TE3} {pos':Pos} {cp:Pos} {c:Nat} (hu:X.A.units+1<cLine) (hN:X.N[i]?=some x) (hv:Vis X.env.scope x) (hj:mN[j]?=some f) (he:PE3 X H0 e te) (hs:swapsWith e (some (.Subscript (.Name x np) (.Constant (.str f) c cp) pos')) pos.line X.env=pure false:=by rfl) (hd:(x==("__debug__" : Str))=false:=by decide) (hcd:(x==("__classdict__" : Str))=false:=by decide):PS3 X H0 (.Assign [.Subscript (.Name x np) (.Constant (.str f) c cp) pos'] e pos) (JY false i j te):=zfI (zen hu hN hv hj he.ok (monE he) hs hd hcd) he (Ju hj rfl)
theorem zgu {te:TN3} {pos':Pos} (hN:X.N[i]?=some x) (hv:Vis X.env.scope x) (hj:dN[j]?=some f) (hc:Cls X.K LamW.C) (hn:jd X.K LamW.C f) (he:PN3 X H0 e te) (hs:swapsWith e (some (.Attribute (.Name x np) f pos')) pos.line X.env=pure false:=by rfl) (hd:(x==("__debug__" : Str))=false:=by decide) (hcd:(x==("__classdict__" : Str))=false:=by decide):PS3 X H0 (.Assign [.Attribute (.Name x np) f pos'] e pos) (JK true i j te):=zeW (ze9 hN hv hj hc hn he.ok (monN he) hs hd hcd) he (Ju hj rfl)
theorem zdu {te:TN3} {pos':Pos} {cp:Pos} {c:Nat} (hu:X.A.units+1<cLine) (hN:X.N[i]?=some x) (hv:Vis X.env.scope x) (hj:mN[j]?=some f) (he:PN3 X H0 e te) (hs:swapsWith e (some (.Subscript (.Name x np) (.Constant (.str f) c cp) pos')) pos.line X.env=pure false:=by rfl) (hd:(x==("__debug__" : Str))=false:=by decide) (hcd:(x==("__classdict__" : Str))=false:=by decide):PS3 X H0 (.Assign [.Subscript (.Name x np) (.Constant (.str f) c cp) pos'] e pos) (JK false i j te):=zeW (zen hu hN hv hj he.ok (monN he) hs hd hcd) he (Ju hj rfl)
theorem znT {te:TN3} {pos':Pos} {cp:Pos} {c:Nat} (hu:X.A.units+1<cLine) (hN:X.N[i]?=some x) (hv:Vis X.env.scope x) (hj:mN[j]?=some f) (he:PN3 X H0 e te) (hs:swapsWith e (some (.Subscript (.Name x np) (.Constant (.str f) c cp) pos')) pos.line X.env=pure false:=by rfl) (hd:(x==("__debug__" : Str))=false:=by decide) (hcd:(x==("__classdict__" : Str))=false:=by decide):PS3 X H0 (.Assign [.Subscript (.Name x np) (.Constant (.str f) c cp) pos'] e pos) (ftp3 false i j te):=zoN (zen hu hN hv hj he.ok (monN he) hs hd hcd) he (Ju hj rfl)
end
variable [LamW]
theorem zgn {α β : Type} {f:α→List β} {fs:List α} (nd:(fs.flatMap f).Nodup) {j:Nat} {x:α} (h:fs[j]?=some x):(f x).Nodup:=by
  induction fs generalizing j with
  | nil=>simp at h
  | cons y r ih=>
    rw [List.flatMap_cons,List.nodup_append] at nd;cases j with
    | zero=>cases h;exact nd.1
    | succ j=>exact ih nd.2.1 (j:=j) (by simpa using h)
theorem zjk {l:Addr} {qs:List (Addr×Addr)} {k:Nat} {q:Addr×Addr} (h:qs[k]?=some q):q.1∈tpA l qs∧q.2∈tpA l qs:=
  ⟨List.mem_cons_of_mem _ (zP (f:=fun q:Addr×Addr=>[q.1,q.2]) h List.mem_cons_self),List.mem_cons_of_mem _ (zP (f:=fun q:Addr×Addr=>[q.1,q.2]) h (List.mem_cons_of_mem _ List.mem_cons_self))⟩
theorem zeJ {l:Addr} {qs:List (Addr×Addr)} (nd:(tpA l qs).Nodup) {k:Nat} {q:Addr×Addr} (h:qs[k]?=some q):q.1≠l∧q.2≠l∧q.1≠q.2:=by
  obtain⟨n1,n2⟩:=List.nodup_cons.mp nd;have n3:=zgn n2 h;refine⟨fun z=>n1 (z ▸ zP (f:=fun q:Addr×Addr=>[q.1,q.2]) h List.mem_cons_self),fun z=>n1 (z ▸ zP (f:=fun q:Addr×Addr=>[q.1,q.2]) h (List.mem_cons_of_mem _ List.mem_cons_self)),fun z=>?_⟩
  exact(List.nodup_cons.mp n3).1 (z ▸ List.mem_cons_self)
theorem znS {l:Addr} {qs:List (Addr×Addr)} (nd:(tpA l qs).Nodup) {k k':Nat} {q q':Addr×Addr} (h:qs[k]?=some q) (h':qs[k']?=some q') {a:Addr} (ha:a∈[q.1,q.2]) (hb:a∈[q'.1,q'.2]):k=k':=zaB (List.nodup_cons.mp nd).2 h h' ha hb
section
variable {X:Cx} {H0:Hp} {e n fe:Expr} {pos np:Pos} {x f:Str} {i j:Nat} {kd:Bool}
theorem zbw {K:PySem.W.Frag} {G0:Hp} {ρ : Env3} {σ : L2.St} {G H:Hp} (F:Fr3 K H0 G0 ρ σ G H) {o:Ob} {l:Addr} {qs:List (Addr×Addr)} {ms:List (D×List D)} (h:ρ[i]?=some (some (.ob o))) (hj:o.fs[j]?=some (.tp l qs ms)) :
    ∃ vs,σ[i]?=some (some (.ref o.a))∧H o.a=some (obO o.k vs)∧vs[j]?=some (.ref l)∧Tp K G H l qs ms∧(tpA l qs).Nodup∧
      ∀ {H':Hp} {qs':List (Addr×Addr)} {ms':List (D×List D)},Tp K G H' l qs' ms'→(∀ b u,b∉tpA l qs→H b=some u→H' b=some u)→(∀ a∈tpA l qs',a∈tpA l qs∨H a=none)→(tpA l qs').Nodup→Fr3 K H0 G0 (ρ.set i (some (.ob (o.put j (.tp l qs' ms'))))) σ G H':=by
  obtain⟨hσ,w⟩:=jE F h;obtain⟨vs,a1,a2,a3,a4⟩:=w.top;obtain⟨v,b1,b2⟩:=a4 j _ hj;obtain⟨n1,n2⟩:=List.nodup_cons.mp w.nd;cases b2 with
  | tp t=>
    refine⟨vs,hσ,a1,b1,t,zgn n2 hj,fun {H' qs' ms'} t' hh hn hd=>?_⟩
    exact F.up h a1 a3 a4 hj (hh _ _ (fun z=>n1 (zP hj z)) a1) a2 b1 (fun _ _=>rfl) (.tp t') (fun b u _ nb e=>hh b u nb e) hn hd
def zaO (kd:Bool) (i j:Nat) (te:TE3) (tn:TN3):TS3:=fun A ρ=>atB ρ[i]? fun o=>o.k.isSome=kd∧flT o.fs[j]? fun l qs ms=>te ρ fun c=>asI c fun m=>tn ρ fun _ ds=>ms.length<sizeLine∧∀ q1 q2,A.nx (ρ.set i (some (.ob (o.put j (.tp l (qs++[(q1,q2)]) (ms++[(.int m,ds)]))))))
theorem zny {te:TE3} {tn:TN3} {lp apos cpos:Pos} (hfe:PE X fe (tF kd i j)) (he:PE3 X H0 e te) (hn:PN3 X H0 n tn)
    (hb:attributeBase fe "append" X.env (eval fe X.env)=eval fe X.env:=by rfl)
    (hf:((backTo cpos (starEach [.List [e,n] lp] X.env)).all (fun x=>!x.1)&&(backToKw cpos (keywordEach [] X.env)).all (fun x=>x.1.isSome)&&decide ([Expr.List [e,n] lp].length+([]:List Keyword).length+(if([]:List Keyword).isEmpty then 0 else 1)<30))=true:=by rfl)
    (hl:(apos.endLine==cpos.line)=true:=by rfl) (hs:starEach [.List [e,n] lp] X.env=(false,eval (.List [e,n] lp) X.env)::starEach [] X.env:=by rfl) (hp:(backTo cpos (starEach [] X.env)).any (·.1)=false:=by rfl)
    (hs1:starEach [e,n] X.env=(false,eval e X.env)::starEach [n] X.env:=by rfl) (hs2:starEach [n] X.env=(false,eval n X.env)::starEach [] X.env:=by rfl)
    (hw:swapsWith (.Call (.Attribute fe "append" apos) [.List [e,n] lp] [] cpos) none pos.line X.env=pure false:=by rfl):PS3 X H0 (.Expr (.Call (.Attribute fe "append" apos) [.List [e,n] lp] [] cpos) pos) (zaO kd i j te tn):=by
  refine PS.imp (Zr (zai hfe (zR (jT (zR he.ok (zR hn.ok zQ hs2) hs1)) zQ hs) hb hf hl hs hp) hw) fun B σ H hyp=>?_
  obtain⟨G0,A,ρ,G,F,q,L⟩:=hyp;obtain⟨o,hi,hk,q⟩:=jf q;obtain⟨l,qs,ms,hj,q⟩:=zcg q;obtain⟨vs,h1,h2,h3,t,_⟩:=zbw F hi hj;refine⟨o.a,o.k,vs,.ref l,h1,h2,hk,h3,zaw t.top,G0,ρ,G,F,he.mono ρ _ _ (fun c q0 v G1 H1 g1 w1=>?_) q⟩
  obtain⟨m,rfl,q⟩:=jJ q0;have rv:=zy (zi w1).rd;subst rv;refine⟨G0,ρ,G1,F.gr g1,hn.mono ρ _ _ (fun f ds q0 q2 us G2 H2 g2 hq2 r=>?_) q⟩
  obtain⟨hz,q⟩:=q0;refine⟨show 2≤sizeLine by decide,fun q1 hq1=>?_⟩
  have F2:=(F.gr g1).gr g2;obtain⟨vs',_,_,_,t',nd,up⟩:=zbw F2 hi hj;have hq1':H2 q1=none∧q1≠q2:=by
    have z:q1≠q2:=fun z=>by rw [z,zh] at hq1;cases hq1
    rw [zd z] at hq1;exact⟨hq1,z⟩
  have hg:∀ a,H2 a=none→G2 a=none:=fun a h=>F2.sub.free h
  have ne1:∀ {b u},H2 b=some u→b≠q1:=fun e=>zG e hq1'.1
  have ne2:∀ {b u},H2 b=some u→b≠q2:=fun e=>zG e hq2
  have tl:(upd (upd H2 q2 (.lst us)) q1 (.lst [.int m,.ref q2])) l=some (.lst (qs.map fun q=>V.ref q.1)):=by rw [zd (ne1 t'.top),zd (ne2 t'.top)];exact t'.top
  refine⟨l,_,.ref q1,rfl,rfl,tl,by rw [List.length_map,t'.len];exact hz,L.nx _ _ _ _ (up (qs':=qs++[(q1,q2)]) (ms':=ms++[(.int m,ds)]) ⟨?_,t'.topG,?_,fun k qq mm e1 e2=>?_⟩ (fun b u nb e=>?_) (fun a ha=>?_) ?_) (q q1 q2)⟩
  · rw [zh,List.map_append];rfl
  · rw [List.length_append,List.length_append,t'.len];rfl
  · have off:∀ {b u},H2 b=some u→b≠l→upd (upd (upd H2 q2 (.lst us)) q1 (.lst [.int m,.ref q2])) l (.lst ((qs.map fun q=>V.ref q.1)++[.ref q1])) b=some u:=fun e nl=>by rw [zd nl,zd (ne1 e),zd (ne2 e)];exact e
    by_cases hlt:k<qs.length
    · rw [List.getElem?_append_left hlt] at e1
      rw [List.getElem?_append_left (by rw [←t'.len];exact hlt)] at e2
      obtain⟨z,ws,a1,a2,a3,a4,a5,a6⟩:=t'.item k qq mm e1 e2;obtain⟨n1,n2,_⟩:=zeJ nd e1;exact⟨z,ws,off a1 n1,a2,a3,off a4 n2,a5,a6⟩
    · have e:k=qs.length:=by
        have:=(List.getElem?_eq_some_iff.mp e1).1;rw [List.length_append,List.length_singleton] at this
        omega
      subst e;rw [List.getElem?_append_right (Nat.le_refl _),Nat.sub_self] at e1;rw [List.getElem?_append_right (by rw [t'.len];exact Nat.le_refl _),t'.len,Nat.sub_self] at e2
      cases e1;cases e2
      have nl1:q1≠l:=Ne.symm (ne1 t'.top);have nl2:q2≠l:=Ne.symm (ne2 t'.top);exact⟨.int m,us,by rw [zd nl1,zh],hg _ hq1'.1,.int _,by rw [zd nl2,zd (Ne.symm hq1'.2),zh],hg _ hq2,r.rd⟩
  · rw [zd (fun z=>nb (by rw [z];exact List.mem_cons_self)),zd (ne1 e),zd (ne2 e)];exact e
  · rcases List.mem_cons.mp ha with h|h
    · rw [h];exact .inl List.mem_cons_self
    · rw [List.flatMap_append,List.mem_append] at h
      rcases h with h|h
      · exact .inl (List.mem_cons_of_mem _ h)
      · rcases List.mem_cons.mp h with h|h
        · rw [h];exact .inr hq1'.1
        · rw [List.mem_singleton.mp h];exact .inr hq2
  · have old:∀ a∈tpA l qs,H2 a≠none:=fun a h z=>by
      obtain⟨⟨u,e,_⟩,_⟩:=t'.has h;rw [e] at z;cases z
    have e:tpA l (qs++[(q1,q2)])=tpA l qs++[q1,q2]:=by unfold tpA;rw [List.flatMap_append];rfl
    rw [e,List.nodup_append];refine⟨nd,List.nodup_cons.mpr ⟨fun z=>hq1'.2 (List.mem_singleton.mp z),List.nodup_cons.mpr ⟨by simp,List.nodup_nil⟩⟩,fun a ha b hb z=>?_⟩
    rw [←z] at hb
    rcases List.mem_cons.mp hb with h|h
    · exact old a ha (h ▸ hq1'.1)
    · exact old a ha (List.mem_singleton.mp h ▸ hq2)
theorem Fr3.any {K:PySem.W.Frag} {G0:Hp} {ρ : Env3} {σ : L2.St} {G H:Hp} (F:Fr3 K H0 G0 ρ σ G H) {k:Nat} {y:Option V} (hk:ρ[k]?=some none):Fr3 K H0 G0 ρ (σ.set k y) G H:=by
  have ne:∀ {m:Nat} {c:Cl},ρ[m]?=some (some c)→k≠m:=fun {m c} e z=>by rw [←z,hk] at e;cases e
  refine⟨F.keep,F.sub,F.old,F.g0,fun m c e=>?_,fun m c v a e e'=>?_,fun m m' c c' v v' a e e' z z'=>?_,by rw [List.length_set];exact F.len⟩
  · rw [List.getElem?_set_ne (ne e)];exact F.slot m c e
  · rw [List.getElem?_set_ne (ne e)] at e';exact F.mine m c v a e e'
  · rw [List.getElem?_set_ne (ne e)] at z
    rw [List.getElem?_set_ne (ne e')] at z';exact F.apart m m' c c' v v' a e e' z z'
def bump (t:Nat) (ms:List (D×List D)):List (D×List D):=(ms.take t).map (fun m=>(m.1,m.2++[.int 0]))++ms.drop t
theorem zma (t:Nat) (ms:List (D×List D)):(bump t ms).length=ms.length:=by unfold bump;rw [List.length_append,List.length_map,←List.length_append,List.take_append_drop]
theorem zir {t:Nat} {ms:List (D×List D)} {m:D×List D} (h:ms[t]?=some m):(bump t ms)[t]?=some m∧bump (t+1) ms=(bump t ms).set t (m.1,m.2++[.int 0]):=by
  have hlt:=(List.getElem?_eq_some_iff.mp h).1;have e:=(List.getElem?_eq_some_iff.mp h).2;have hl:((ms.take t).map fun m:D×List D=>(m.1,m.2++[.int 0])).length=t:=by rw [List.length_map,List.length_take];omega
  refine⟨?_,?_⟩
  · unfold bump
    rw [List.getElem?_append_right (by rw [hl];exact Nat.le_refl _),hl,Nat.sub_self,List.getElem?_drop];exact h
  · unfold bump
    rw [List.set_append_right _ _ (by rw [hl];exact Nat.le_refl _),hl,Nat.sub_self,List.drop_eq_getElem_cons hlt,List.set_cons_zero,List.take_succ,h,Option.toList_some,List.map_append,List.append_assoc];rfl
def zbn (kd:Bool) (i j k:Nat):TS3:=fun A ρ=>atB ρ[i]? fun o=>o.k.isSome=kd∧k≠i∧k < ρ.length∧flT o.fs[j]? fun l qs ms=>(∀ m∈ms,m.2.length<sizeLine)∧A.nx ((ρ.set k none).set i (some (.ob (o.put j (.tp l qs (ms.map fun m=>(m.1,m.2++[.int 0])))))))
theorem zkJ {k c1 c2:Nat} {s:Str} {sp np2 xp1 xp2 xp3 apos cpos epos:Pos} (hfe:PE X fe (tF kd i j)) (hp:PassesOwn (model X.prog X.w) X.A X.env X.xe) (hc:X.calm=true) (hN:X.N.Nodup) (hk:X.N[k]?=some s) (hx:Loc X.env.scope s) (hv:Vis X.env.scope s)
    (hfn:X.fn s=true∨X.env.scope.names.lookup s=some .local:=by first|exact .inl rfl|exact .inr rfl|assumption)
    (hd:(s==("__debug__" : Str))=false:=by decide) (hcd:(s==("__classdict__" : Str))=false:=by decide)
    (hix:JA (.Constant (.int 1) c1 xp1):=by exact fun _ _=>rfl)
    (hb:attributeBase (.Subscript (.Name s np2) (.Constant (.int 1) c1 xp1) xp2) "append" X.env (eval (.Subscript (.Name s np2) (.Constant (.int 1) c1 xp1) xp2) X.env)=eval (.Subscript (.Name s np2) (.Constant (.int 1) c1 xp1) xp2) X.env:=by rfl)
    (hf:((backTo cpos (starEach [.Constant (.int 0) c2 xp3] X.env)).all (fun x=>!x.1)&&(backToKw cpos (keywordEach [] X.env)).all (fun x=>x.1.isSome)&&decide ([Expr.Constant (.int 0) c2 xp3].length+([]:List Keyword).length+(if([]:List Keyword).isEmpty then 0 else 1)<30))=true:=by rfl)
    (hl:(apos.endLine==cpos.line)=true:=by rfl) (hs:starEach [.Constant (.int 0) c2 xp3] X.env=(false,eval (.Constant (.int 0) c2 xp3) X.env)::starEach [] X.env:=by rfl) (hpp:(backTo cpos (starEach [] X.env)).any (·.1)=false:=by rfl)
    (hw:swapsWith (.Call (.Attribute (.Subscript (.Name s np2) (.Constant (.int 1) c1 xp1) xp2) "append" apos) [.Constant (.int 0) c2 xp3] [] cpos) none epos.line X.env=pure false:=by rfl) (hfs:∀ x,foldedSetIterable fe X.env x=pure x:=by intro _;rfl) :
    PS3 X H0 (.For (.Name s sp) fe [.Expr (.Call (.Attribute (.Subscript (.Name s np2) (.Constant (.int 1) c1 xp1) xp2) "append" apos) [.Constant (.int 0) c2 xp3] [] cpos) epos] [] pos) (zbn kd i j k):=by
  refine PS.imp (zgd hp hc (zf8 hfe) (zfY hN hk hx hfn) (zby (Zr (zai (zaj zbu (z6 hk hv hd hcd) zaD hix) (zR zaD zQ hs) hb hf hl hs hpp) hw)) hfs) fun B σ H hyp=>?_
  obtain⟨G0,A,ρ,G,F,q,L⟩:=hyp;obtain⟨o,hi,hkd,nki,hkl,q⟩:=jf q;obtain⟨l,qs,ms,hj,hz,q⟩:=zcg q;obtain⟨vs,h1,h2,h3,t,nd,_⟩:=zbw F hi hj;have hjl:j<o.fs.length:=(List.getElem?_eq_some_iff.mp hj).1;have hil:i < ρ.length:=(List.getElem?_eq_some_iff.mp hi).1;refine⟨o.a,o.k,vs,.ref l,h1,h2,hkd,h3,l,rfl,⟨_,SqL.of t.top⟩,?_⟩;have key:∀ u:Nat,((ρ.set k none).set i (some (.ob (o.put j (.tp l qs (bump u ms))))))[i]?=some (some (.ob (o.put j (.tp l qs (bump u ms))))):=fun u=>List.getElem?_set_self (by rw [List.length_set];exact hil)
  have keyj:∀ u:Nat,(o.put j (.tp l qs (bump u ms))).fs[j]?=some (.tp l qs (bump u ms)):=fun u=>List.getElem?_set_self hjl
  refine L2.z7 (xs:=qs.map fun q=>V.ref q.1) (fun u σ' H'=>Fr3 X.K H0 G0 ((ρ.set k none).set i (some (.ob (o.put j (.tp l qs (bump u ms)))))) σ' G H') ?_ (fun u σ' H' _ F'=>?_) (fun u v σ' H' hv' F'=>?_) (fun σ' H' F'=>?_)
  · have e:ρ.set i (some (.ob (o.put j (.tp l qs (bump 0 ms))))) = ρ:=by
      refine List.ext_getElem? fun m=>?_
      by_cases hm:i=m
      · subst hm
        rw [List.getElem?_set_self hil,hi];unfold Ob.put bump;rw [List.take_zero,List.map_nil,List.nil_append,List.drop_zero,show o.fs.set j (.tp l qs ms)=o.fs from List.ext_getElem? fun m=>by
          by_cases hm:j=m
          · subst hm;rw [List.getElem?_set_self hjl,hj]
          · rw [List.getElem?_set_ne hm]]
      · rw [List.getElem?_set_ne hm]
    rw [List.set_comm _ _ nki,e];exact F.drop
  · obtain⟨_,_,_,_,t',_⟩:=zbw F' (key u) (keyj u)
    exact SqL.of t'.top
  · rw [List.getElem?_map] at hv'
    cases hq:qs[u]? with
    | none=>rw [hq] at hv';cases hv'
    | some qq=>
      rw [hq] at hv';cases hv';have hul:u<ms.length:=by rw [←t.len];exact(List.getElem?_eq_some_iff.mp hq).1
      have hm:ms[u]?=some ms[u]:=List.getElem?_eq_getElem hul;obtain⟨hb1,hb2⟩:=zir hm;have F2:=F'.any (k:=k) (y:=some (.ref qq.1)) (by rw [List.getElem?_set_ne (Ne.symm nki),List.getElem?_set_self hkl])
      obtain⟨vs',_,a1,_,t',nd',up⟩:=zbw F2 (key u) (keyj u);obtain⟨z,ws,b1,b2,b3,b4,b5,b6⟩:=t'.item u qq _ hq hb1;obtain⟨n1,n2,n3⟩:=zeJ nd' hq;have hkσ : k < σ'.length:=by rw [←F'.len,List.length_set,List.length_set];exact hkl
      refine⟨.ref qq.1,List.getElem?_set_self hkσ,qq.1,_,1,.ref qq.2,rfl,rfl,SqL.of b1,rfl,zaw b4,qq.2,ws,.int 0,rfl,rfl,b4,by rw [b6.length];exact hz _ (List.mem_of_getElem? hm),?_⟩
      have e:∀ (fl:Fl),((ρ.set k none).set i (some (.ob (o.put j (.tp l qs (bump u ms)))))).set i (some (.ob ((o.put j (.tp l qs (bump u ms))).put j fl)))=(ρ.set k none).set i (some (.ob (o.put j fl))):=fun fl=>by
        rw [List.set_set];unfold Ob.put;rw [List.set_set]
      have:=up (H':=upd H' qq.2 (.lst (ws++[.int 0]))) (qs':=qs) (ms':=bump (u+1) ms) ⟨by rw [zd (Ne.symm n2)];exact t'.top,t'.topG,by rw [zma,←t.len],fun m q' mm e1 e2=>?_⟩ (fun b w nb e=>by rw [zd (fun z=>nb (by rw [z];exact(zjk hq).2))];exact e) (fun a ha=>.inl ha) nd'
      · rw [e] at this;exact this
      · rw [hb2] at e2
        rcases zO e2 with ⟨rfl,rfl,_⟩|⟨nm,e2⟩
        · rw [hq] at e1;cases e1
          refine⟨z,_,by rw [zd n3];exact b1,b2,b3,zh,b5,?_⟩
          exact b6.append (.cons (.int 0) .nil)
        · obtain⟨z',ws',c1,c2,c3,c4,c5,c6⟩:=t'.item m q' mm e1 e2
          have nn:∀ a∈[q'.1,q'.2],a≠qq.2:=fun a ha z=>nm (znS nd' hq e1 (a:=qq.2) (List.mem_cons_of_mem _ List.mem_cons_self) (z ▸ ha))
          exact⟨z',ws',by rw [zd (nn _ List.mem_cons_self)];exact c1,c2,c3,by rw [zd (nn _ (List.mem_cons_of_mem _ List.mem_cons_self))];exact c4,c5,c6⟩
  · have e:bump qs.length ms=ms.map fun m=>(m.1,m.2++[.int 0]):=by unfold bump;rw [t.len,List.take_length,List.drop_length,List.append_nil]
    rw [List.length_map,e] at F';exact L.nx _ _ _ _ F' q
end
end L3
namespace L2
open PySem PySem.Spec PyProof.Rows
section
variable {X:Cx} {pins:List (Addr×Obj)} {s:Shared} {σ : St} {H:Hp}
theorem zgD {P:Program} {w:World} {H':Hp} {h:Heap} {a:Addr} {n:Int} (x:zK P w H' h a (.lst [.int n])):zK P w H h a (bagO a):=by
  obtain⟨_,its,k,r,e⟩:=x;obtain⟨v,rfl,rv⟩:=jO r;exact⟨⟨n,v,k,rv,e⟩,⟨_,e⟩,fun h1 h2 ⟨m,u,j,ru,e1⟩ hk=>⟨m,u,j,ru,hk _ e1⟩⟩
theorem Inv.bagged (I:Inv X pins σ H s) {a:Addr} {n:Int} (ha:H a=some (.lst [.int n])):Inv X pins σ (upd H a (bagO a)) s:=
  I.write (h':=s.heap) (t':=s.toks) (e:=a) (by rw [ha];exact True.intro) (.inl rfl) (fun _ _ _ e=>e) (zgD (H:=H) (I.hok a _ ha)).2.1 (zgD (I.hok a _ ha))
theorem Inv.opened (I:Inv X pins σ H s) {a:Addr} (ha:H a=some (bagO a)):∃ n:Int,Inv X pins σ (upd H a (.lst [.int n])) s:=by
  obtain⟨⟨n,v,k,rv,e⟩,_,_⟩:=(show zK X.prog X.w H s.heap a (bagO a) from I.hok a _ ha)
  exact⟨n,I.write (h':=s.heap) (t':=s.toks) (e:=a) (by rw [ha];exact True.intro) (.inl rfl) (fun _ _ _ e=>e) ⟨_,e⟩ ⟨(by show 1≤sizeLine;decide),[v],k,.cons rv .nil,e⟩⟩
theorem zhO {H:Hp} {a:Addr} {o:HO} (h:H a=some o):upd H a o=H:=by
  funext b;unfold upd;split
  · rename_i e;rw [e,h]
  · rfl
section
variable {c:Nat} {np cp pos:Pos} {x:Str} {i:Nat} {e:Expr}
def tBG (i:Nat):TE:=fun σ H Q=>∃ a,σ[i]?=some (some (.ref a))∧H a=some (bagO a)∧∀ n:Int,Q (.int n) H
theorem znn (hN:X.N[i]?=some x) (hv:Vis X.env.scope x) (hix:JA (.Constant (.int 0) c cp):=by exact fun _ _=>rfl) (hd:(x==("__debug__" : Str))=false:=by decide) (hcd:(x==("__classdict__" : Str))=false:=by decide):PE X (.Subscript (.Name x np) (.Constant (.int 0) c cp) pos) (tBG i):=by
  intro pins s σ H Q I h;obtain⟨a,h1,h2,q⟩:=h;obtain⟨n,I'⟩:=I.opened h2;refine thn (zaj zbu (z6 hN hv hd hcd) zaD hix pins s σ _ (fun v H1=>v=.int n∧H1=upd H a (.lst [.int n])) I' ⟨.ref a,h1,a,_,0,_,rfl,rfl,SqL.of zh,rfl,rfl,rfl⟩) fun u s1 ⟨y,H1,I1,r,e1,e2⟩=>?_
  subst e1 e2;have I2:=I1.bagged zh;rw [zbT,zhO h2] at I2;exact⟨_,H,I2,r,q n⟩
def rSetB:TSet:=fun o i v H Q=>∃ a n,o=.ref a∧i=.int 0∧v=.int n∧H a=some (bagO a)∧Q H
theorem zki:PSet X rSetB:=by
  intro pins s σ H o i v ov iv u Q I ro ri rv h;obtain⟨a,n,rfl,rfl,rfl,h2,q⟩:=h;obtain⟨m,I'⟩:=I.opened h2;refine thn (zbL pins s σ _ (.ref a) (.int 0) (.int n) ov iv u (fun H1=>H1=upd H a (.lst [.int n])) I' ro ri rv ⟨a,_,0,0,rfl,rfl,zh,rfl,zbT⟩) fun u s1 ⟨H1,I1,e1⟩=>?_
  subst e1;have I2:=I1.bagged zh;rw [zbT,zhO h2] at I2;exact⟨H,I2,q⟩
def tBN (te:TE):TE:=fun σ H Q=>te σ H fun v H1=>∃ n:Int,v=.int n∧∀ p,H1 p=none→Q (.ref p) (upd H1 p (bagO p))
theorem zmp {te:TE} (he:PE X e te) (hs:starEach [e] X.env=(false,eval e X.env)::starEach [] X.env:=by rfl) (hm:∀ σ H (Q Q':VK),(∀ v H,Q v H→Q' v H)→te σ H Q→te σ H Q'):PE X (.List [e] pos) (tBN te):=by
  intro pins s σ H Q I h;refine thn (jT (zR he zQ hs) pins s σ H (fun v H1=>∃ p n H2,v=.ref p∧H1=upd H2 p (.lst [.int n])∧Q (.ref p) (upd H2 p (bagO p))) I (hm σ H _ _ (fun v H1 ⟨n,e1,q⟩=>⟨show 1≤sizeLine by decide,fun p hp=>⟨p,n,H1,rfl,by rw [e1],q p hp⟩⟩) h)) fun u s1 ⟨y,H1,I1,r,p,n,H2,e1,e2,q⟩=>?_
  subst e1 e2;have I2:=I1.bagged zh;rw [zbT] at I2;exact⟨_,_,I2,r,q⟩
end
end
end L2
namespace L3
open PySem PySem.Spec PyProof.Rows L2
variable [LamW]
def isBg (o:Option (Option Cl)) (P:Prop):Prop:=match o with
  | some (some .bg)=>P
  | _=>False
theorem zc9 {o:Option (Option Cl)} {P:Prop} (h:isBg o P):o=some (some .bg)∧P:=by
  unfold isBg at h
  split at h
  · exact⟨rfl,h⟩
  · exact h.elim
section
variable {X:Cx} {H0:Hp} {e:Expr} {pos np cp:Pos} {x:Str} {i c:Nat}
theorem zeT {K:PySem.W.Frag} {G0:Hp} {ρ : Env3} {σ : L2.St} {G H:Hp} (F:Fr3 K H0 G0 ρ σ G H) (h:ρ[i]?=some (some .bg)):∃ a,σ[i]?=some (some (.ref a))∧H a=some (bagO a):=by
  obtain⟨v,h1,h2⟩:=F.slot i _ h;cases h2 with
  | bg p=>exact⟨_,h1,p⟩
def Zq (i:Nat):TE3:=fun ρ Q=>isBg ρ[i]? (∀ n:Int,Q (.sh true (.int n)))
theorem zd9 (hN:X.N[i]?=some x) (hv:Vis X.env.scope x) (hix:JA (.Constant (.int 0) c cp):=by exact fun _ _=>rfl) (hd:(x==("__debug__" : Str))=false:=by decide) (hcd:(x==("__classdict__" : Str))=false:=by decide):PE3 X H0 (.Subscript (.Name x np) (.Constant (.int 0) c cp) pos) (Zq i):=by
  refine⟨fun ρ Q Q' h q=>?_,PE.imp (znn hN hv hix hd hcd) fun σ H Q=>el5 fun G0 ρ G F q=>?_⟩
  · obtain⟨e,q⟩:=zc9 q
    unfold Zq;rw [e];exact fun n=>h _ (q n)
  · obtain⟨e,q⟩:=zc9 q
    obtain⟨a,h1,h2⟩:=zeT F e;exact⟨a,h1,h2,fun n=>q n _ G H (Gr.refl F.sub) (.sh (.sc rfl (.int n)))⟩
def zaf (i:Nat) (te:TE3):TS3:=fun A ρ=>te ρ fun c=>asI c fun _=>isBg ρ[i]? (A.nx ρ)
theorem zkF {te:TE3} {spos:Pos} (hN:X.N[i]?=some x) (hv:Vis X.env.scope x) (he:PE3 X H0 e te) (hd:(x==("__debug__" : Str))=false:=by decide) (hcd:(x==("__classdict__" : Str))=false:=by decide)
    (hs:swapsWithSole [.Subscript (.Name x np) (.Constant (.int 0) c cp) spos] e pos.line X.env=pure false:=by rfl) (hw:swappedStores [.Subscript (.Name x np) (.Constant (.int 0) c cp) spos] e X.env=pure none:=by rfl)
    (h1:(assignEach [.Subscript (.Name x np) (.Constant (.int 0) c cp) spos] X.env).map (·.2)=[assign (.Subscript (.Name x np) (.Constant (.int 0) c cp) spos) X.env]:=by rfl)
    (ha:∀ v,assign (.Subscript (.Name x np) (.Constant (.int 0) c cp) spos) X.env v=(do
      let ov ←holding [v] (eval (.Name x np) X.env)
      let iv ←holding [v,ov] (eval (.Constant (.int 0) c cp) X.env)
      standAt spos
      holding [v,ov,iv] (setItem ov iv v)
      release [v,ov,iv] []):=by intro _;rfl):PS3 X H0 (.Assign [.Subscript (.Name x np) (.Constant (.int 0) c cp) spos] e pos) (zaf i te):=by
  refine PS.imp (zbZ he.ok (zcs (z6 hN hv hd hcd) zaD zki ha) hs hw h1) fun B σ H hyp=>?_
  obtain⟨G0,A,ρ,G,F,q,L⟩:=hyp;refine⟨G0,ρ,G,F,he.mono ρ _ _ (fun c q0 v G1 H1 g1 w1=>?_) q⟩
  obtain⟨n,rfl,q⟩:=jJ q0;have rv:=zy (zi w1).rd;subst rv;obtain⟨e1,q⟩:=zc9 q;obtain⟨a,h1,h2⟩:=zeT (F.gr g1) e1;exact⟨.ref a,h1,a,n,rfl,rfl,rfl,h2,L.nx _ _ _ _ (F.gr g1) q⟩
def Zf (te:TE3):TE3:=fun ρ Q=>te ρ fun c=>asI c fun _=>Q .bg
theorem zkl {te:TE3} (he:PE3 X H0 e te) (hs:starEach [e] X.env=(false,eval e X.env)::starEach [] X.env:=by rfl):PE3 X H0 (.List [e] pos) (Zf te):=by
  refine⟨fun ρ Q Q' h q=>he.mono ρ _ _ (fun c q=>?_) q,PE.imp (zmp he.ok hs (monE he)) fun σ H Q=>el5 fun G0 ρ G F q=>⟨G0,ρ,G,F,he.mono ρ _ _ (fun c q0 v G1 H1 g1 w1=>?_) q⟩⟩
  · obtain⟨n,rfl,q⟩:=jJ q
    exact h _ q
  · obtain⟨n,rfl,q⟩:=jJ q0
    exact⟨n,zy (zi w1).rd,fun p hp=>q _ G1 _ (g1.trans (Gr.apart g1.sub hp)) (.bg zh)⟩
end
variable [LamW]
def okA:Cl→Bool
  | .sh _ _=>true
  | .fo _ _=>true
  | .bg=>true
  | .ow _ _=>false
  | .ob _=>false
  | .lo _ _=>false
def argC:Cl→Cl
  | .sh _ d=>.sh (zx d) d
  | .ow f ds=>.ow f ds
  | .ob o=>.ob o
  | .lo a os=>.lo a os
  | .fo k ds=>.fo k ds
  | .bg=>.bg
def argR:Cl→Option Cl
  | .sh _ d=>some (.sh (zx d) d)
  | .ow _ ds=>some (.sh false (.list ds))
  | .ob o=>some (.fo o.k (o.fs.map Fl.d))
  | .fo k ds=>some (.fo k ds)
  | .bg=>some .bg
  | .lo _ _=>none
def jH:List Cl→Option (List Cl)
  | []=>some []
  | c::r=>(argR c).bind fun c'=>(jH r).map fun r'=>c'::r'
abbrev SpR:=List Cl→(Bool→D→Prop)→Prop
def spR (K:PySem.W.Frag) (sp:SpR):Sp:=fun vs H Q _=>∃ G cs,Sub G H∧Vws K H G H vs cs∧cs.all okA=true∧sp cs fun f d=>∀ v G' H',Gr G H G' H'→Rf K H G' f v d→Q v H'
structure DfR (P:Program) (w:World) (K:PySem.W.Frag) (mg:Str→Option Value) (base:Heap) (k:Nat) (x:Str) (ps:List Str) (sp:SpR):Prop where
  mono:∀ cs (Q Q':Bool→D→Prop),(∀ f d,Q f d→Q' f d)→sp cs Q→sp cs Q'
  ok:Df P w K mg base k x ps (spR K sp)
abbrev SpO:=Ob→List Cl→(Ob→Bool→D→Prop)→Prop
def spO (K:PySem.W.Frag) (sp:SpO):Sp:=fun vs H Q _=>∃ G o us cs,vs=.ref o.a::us∧Sub G H∧ObAt K G H o∧Vws K (bar H o.as) G H us cs∧cs.all okA=true∧
  sp o cs fun o' f d=>∀ v G' H',Gr G (bar H o.as) G' H'→ObAt K G' H' o'→o'.a=o.a→(∀ a∈o'.as,a∈o.as∨H a=none)→Rf K (bar H o.as) G' f v d→Q v H'
structure DfO (P:Program) (w:World) (K:PySem.W.Frag) (mg:Str→Option Value) (base:Heap) (k:Nat) (x:Str) (ps:List Str) (sp:SpO):Prop where
  mono:∀ o cs (Q Q':Ob→Bool→D→Prop),(∀ o f d,Q o f d→Q' o f d)→sp o cs Q→sp o cs Q'
  ok:Df P w K mg base k x ps (spO K sp)
def jB (N:List Str) (cs:List Cl):Env3:=cs.map some++List.replicate (N.length - cs.length) none
theorem Vws.get {K:PySem.W.Frag} {H0 G H:Hp} {vs:List V} {cs:List Cl} (h:Vws K H0 G H vs cs) {i:Nat} {c:Cl} (e:cs[i]?=some c):∃ v,vs[i]?=some v∧Vw K H0 G H v c:=by
  induction h generalizing i with
  | nil=>simp at e
  | cons a b ih=>
    cases i with
    | zero=>cases e;exact⟨_,rfl,a⟩
    | succ i=>exact ih (i:=i) (by simpa using e)
theorem zfi {c:Cl} {v:V} {a:Addr} (h:okA c=true):¬Has c v a:=by
  cases c<;>first|exact id|cases h
theorem zfH {K:PySem.W.Frag} {H0 G H:Hp} {N:List Str} {vs:List V} {cs:List Cl} (s:Sub G H) (hk:zt H0 H) (w:Vws K H0 G H vs cs) (own:∀ (i:Nat) (c:Cl) (v:V) (a:Addr),cs[i]?=some c→Has c v a→i=0∧H0 a=none):Fr3 K H0 G (jB N cs) (start N vs) G H:=by
  have at3:∀ (i:Nat) c,(jB N cs)[i]?=some (some c)→cs[i]?=some c:=fun i c e=>by
    unfold jB at e
    by_cases hi:i<cs.length
    · rw [List.getElem?_append_left (by simpa using hi),List.getElem?_map] at e
      cases q:cs[i]? with
      | none=>rw [q] at e;cases e
      | some d=>rw [q] at e;cases e;rfl
    · rw [List.getElem?_append_right (by simpa using hi),List.getElem?_replicate] at e
      split at e<;>cases e
  have len:=zbX w;refine⟨hk,s,fun b o e=>.inl e,Same.refl _,fun i c e=>?_,fun i c v a e _ h=>(own i c v a (at3 i c e) h).2,fun i j c c' v v' a e e' _ _ h h'=>(own i c v a (at3 i c e) h).1.trans (own j c' v' a (at3 j c' e') h').1.symm,?_⟩
  · obtain⟨v,hv,hw⟩:=w.get (at3 i c e)
    refine⟨v,?_,hw⟩
    unfold L2.start;have hi:i<vs.length:=(List.getElem?_eq_some_iff.mp hv).1;rw [List.getElem?_append_left (by simpa using hi),List.getElem?_map,hv];rfl
  · unfold jB L2.start;simp [len]
section
variable {P:Program} {w:World} {K:PySem.W.Frag} {mg:Str→Option Value} {base:Heap} {x qual:Str} {st:Stmt} {f:Addr} {fd:FuncData} {N ps:List Str} {k:Nat}
theorem fnR {sp:SpR} (F:Fun K x qual st f fd) (S:FnScope N ps (zf st)) (len:∀ cs Q,sp cs Q→cs.length=ps.length)
    (hbody:∀ (cdv:Value) (A:Around) (outer:List Env) (s:Shared) (H:Hp) (E:XK) (E3:Addr→Prop),(∀ C H',E3 C→zt H H'→E (.ref C) none H')→Room k (A.deeper (envOfC qual (zf st) s.heap.objs.size f cdv))→
      ∃ t,PSs3 (cxOf (CXR P w) P w K mg base N qual (zf st) f cdv A outer s H E) H (jC st) t∧∀ cs Q,sp cs Q→t { nx:=fun _=>Q true .none,rt:=Q } (jB N cs)):FnOk P w K mg base (CXR P w) (k+1) f fd ps (spR K sp):=by
  refine F.okR S (fun vs H Q E h=>?_) (fun cdv A outer s H vs Q E hr h=>?_)
  · obtain⟨G,cs,_,r,_,h⟩:=h
    rw [zbX r];exact len _ _ h
  · obtain⟨G,cs,sG,r,ok,h⟩:=h
    obtain⟨t,ht,hq⟩:=hbody cdv A outer s H E (fun _=>False) (fun C H' e _=>e.elim) hr
    exact⟨_,ht,G,_,jB N cs,G,zfH sG (zt.refl _) r (fun i c v a e h=>absurd h (zfi (List.all_eq_true.mp ok c (List.mem_of_getElem? e)))),hq cs _ h,⟨fun ρ σ G' H' F' q=>q .non G' H' F'.gr0 (.sc rfl .non),fun f d v G' H' g rd q=>q v G' H' g rd,fun _ _ _ _ _ q=>q.elim,fun _ _ _ _ _ q=>q.elim,fun _ _ _ _ _ _ _ _ _ q=>q.elim⟩⟩
theorem fnO {sp:SpO} (F:Fun K x qual st f fd) (S:FnScope N ps (zf st)) (len:∀ o cs Q,sp o cs Q→cs.length+1=ps.length)
    (hbody:∀ (cdv:Value) (A:Around) (outer:List Env) (s:Shared) (H H0:Hp) (E:XK) (E3:Addr→Prop),(∀ C H',E3 C→zt H0 H'→E (.ref C) none H')→Room k (A.deeper (envOfC qual (zf st) s.heap.objs.size f cdv))→
      ∃ t,PSs3 (cxOf (CXR P w) P w K mg base N qual (zf st) f cdv A outer s H E) H0 (jC st) t∧∀ o cs Q,sp o cs Q→t { nx:=fun _=>False,rt:=fun _ _=>False,rm:=fun c ρ=>asS c fun f d=>atB ρ[0]? fun o'=>o'.a=o.a∧Q o' f d } (jB N (.ob o::cs))):FnOk P w K mg base (CXR P w) (k+1) f fd ps (spO K sp):=by
  refine F.okR S (fun vs H Q E h=>?_) (fun cdv A outer s H vs Q E hr h=>?_)
  · obtain⟨G,o,us,cs,rfl,_,_,r,_,h⟩:=h
    rw [List.length_cons,zbX r];exact len _ _ _ h
  · obtain⟨G,o,us,cs,rfl,sG,ob,r,ok,h⟩:=h
    obtain⟨t,ht,hq⟩:=hbody cdv A outer s H (bar H o.as) E (fun _=>False) (fun C H' e _=>e.elim) hr
    have kp:zt (bar H o.as) H:=Same.x fun b u e=>by
      by_cases hb:b∈o.as
      · rw [zbr hb] at e;cases e
      · rwa [jF hb] at e
    refine⟨_,ht,G,_,jB N (.ob o::cs),G,zfH sG kp (.cons (.ob ob) r) (fun i c v a e h=>?_),hq o cs _ h,⟨fun _ _ _ _ _ q=>q.elim,fun _ _ _ _ _ _ _ q=>q.elim,fun _ _ _ _ _ q=>q.elim,fun _ _ _ _ _ q=>q.elim,fun c v ρ σ G' H' F' w' n' q=>?_⟩⟩
    · cases i with
      | zero=>cases e;exact⟨rfl,zbr h⟩
      | succ i=>
        have e':cs[i]?=some c:=by simpa using e
        exact absurd h (zfi (List.all_eq_true.mp ok c (List.mem_of_getElem? e')))
    · obtain⟨f,d,rfl,q⟩:=jS q
      obtain⟨o',e,ea,q⟩:=jf q;obtain⟨hσ,wo⟩:=jE F' e;exact q v G' H' F'.gr0 wo ea (fun a ha=>zdj (F'.mine 0 _ _ a e hσ ha)) (zi w')
end
section
variable {K:PySem.W.Frag} {H0 G0:Hp} {ρ : Env3} {σ : L2.St} {G H G' H':Hp}
theorem Vw.arg {H1:Hp} {v:V} {c:Cl} (w:Vw K H0 G H v c) (h:okA c=true):Vw K H1 G H v (argC c):=by
  cases w with
  | sh r=>exact .sh ⟨r.rd,fun h=>Jg h r.rd⟩
  | fo a b c=>exact .fo a b c
  | bg a=>exact .bg a
  | _=>cases h
theorem Vws.arg {H1:Hp} {vs:List V} {cs:List Cl} (w:Vws K H0 G H vs cs) (h:cs.all okA=true):Vws K H1 G H vs (cs.map argC):=by
  induction w with
  | nil=>exact .nil
  | cons a b ih=>
    rw [List.all_cons,Bool.and_eq_true] at h;exact .cons (a.arg h.1) (ih h.2)
theorem zox {c:Cl} (h:okA c=true):okA (argC c)=true:=by cases c<;>first|rfl|cases h
theorem zeV {cs:List Cl} (h:cs.all okA=true):(cs.map argC).all okA=true:=by
  rw [List.all_map];exact List.all_eq_true.mpr fun c hc=>zox (List.all_eq_true.mp h c hc)
theorem FlAt.rd {v:V} {fl:Fl} (w:FlAt K G H v fl) (s:Sub G H):RdV K H v fl.d:=by
  cases w with
  | sh r=>exact jx s.s r
  | ow h r n=>exact .lst (SqL.of h) (rdvs_same s.s r)
  | tp t=>exact t.rd s
theorem Vw.argR {v:V} {c c':Cl} (w:Vw K H0 G H v c) (s:Sub G H) (h:argR c=some c'):Vw K H (cln H) H v c'∧okA c'=true:=by
  cases w with
  | sh r=>
    cases h;have r1:=zbG (jx s.s r.rd)
    exact⟨.sh ⟨r1,fun h=>Jg h r1⟩,rfl⟩
  | ow p r n=>
    cases h;exact⟨.sh (.no (zbG (.lst (SqL.of p) (rdvs_same s.s r.rd)))),rfl⟩
  | ob wo=>
    rename_i o;cases h;obtain⟨vs,a1,a2,a3,a4⟩:=wo.top;refine⟨.fo (vs:=vs) (JJ a1 za1.1) a2 (zde (by rw [List.length_map,a2,a3]) fun k v d hv hd=>?_),rfl⟩
    rw [List.getElem?_map] at hd;cases q:o.fs[k]? with
    | none=>rw [q] at hd;cases hd
    | some fl=>
      rw [q] at hd;cases hd;obtain⟨u,b1,b2⟩:=a4 k fl q;rw [b1] at hv;cases hv;exact zbG (b2.rd s)
  | lo _ _ _ _=>cases h
  | fo a b c=>cases h;exact⟨.fo (JJ (s.s _ _ a) za1.1) b (rdvs_cln (rdvs_same s.s c)),rfl⟩
  | bg a=>cases h;exact⟨.bg a,rfl⟩
theorem Vws.argR {vs:List V} {cs cs':List Cl} (w:Vws K H0 G H vs cs) (s:Sub G H) (h:jH cs=some cs'):Vws K H (cln H) H vs cs'∧cs'.all okA=true:=by
  induction w generalizing cs' with
  | nil=>cases h;exact⟨.nil,rfl⟩
  | cons a b ih=>
    unfold jH at h;rename_i c vs cs;cases e:L3.argR c with
    | none=>rw [e] at h;cases h
    | some c'=>
      rw [e,Option.bind_some] at h;cases e2:jH cs with
      | none=>rw [e2] at h;cases h
      | some r=>
        rw [e2] at h;cases h;obtain⟨h1,h2⟩:=a.argR s e;obtain⟨h3,h4⟩:=ih e2;exact⟨.cons h1 h3,by rw [List.all_cons,h2,h4];rfl⟩
end
section
variable {X:Cx} {H0:Hp} {e:Expr} {es:List Expr} {pos p np:Pos} {x y:Str} {k i:Nat} {ps:List Str} {E:XK}
def zah (sp:SpR) (t:TA3):TE3:=fun ρ Q=>t ρ fun cs=>optP (jH cs) fun cs'=>sp cs' fun f d=>(cs.all okA=true∨zx d=true)∧Q (.sh f d)
theorem dfR {sp:SpR} {t:TA3} (Gd:DfR X.prog X.w X.K X.mg X.base k x ps sp) (hr:Room k X.A) (hg:Gl X x) (hx:Passes (CXR X.prog X.w) X E) (ha:PA3 X H0 (e::es) t) (hdb:(x==("__debug__" : Str))=false:=by decide)
    (he:starEach (e::es) X.env=(false,eval e X.env)::starEach es X.env:=by rfl) (hpl:(backTo pos (starEach es X.env)).any (·.1)=false:=by rfl):PE3 X H0 (.Call (.Name x p) (e::es) [] pos) (zah sp t):=by
  refine⟨fun ρ Q Q' h q=>ha.mono ρ _ _ (fun cs q=>?_) q,PE.imp (zb9 Gd.ok hr hg hx ha.ok hdb he hpl) fun σ H Q=>el5 fun G0 ρ G F q=>⟨G0,ρ,G,F,ha.mono ρ _ _ (fun cs hyp vs G1 H1 g1 w=>?_) q⟩⟩
  · obtain⟨cs',e,q⟩:=z8 q
    rw [e];exact Gd.mono _ _ _ (fun f d ⟨a,q⟩=>⟨a,h _ q⟩) q
  obtain⟨cs',e,q⟩:=z8 hyp;show spR X.K sp (vs++[]) H1 Q E;rw [List.append_nil];have F1:=F.gr g1
  by_cases ok:cs.all okA=true
  · have e':cs'=cs.map argC:=by
      clear q hyp w
      induction cs generalizing cs' with
      | nil=>cases e;rfl
      | cons c r ih=>
        rw [List.all_cons,Bool.and_eq_true] at ok;unfold jH at e;have e0:argR c=some (argC c):=by cases c<;>first|rfl|cases ok.1
        rw [e0,Option.bind_some] at e;cases e2:jH r with
        | none=>rw [e2] at e;cases e
        | some r'=>rw [e2] at e;cases e;rw [ih _ e2 ok.2];rfl
    subst e';refine⟨G1,cs.map argC,g1.sub,w.arg ok,zeV ok,Gd.mono _ _ _ (fun f d ⟨_,q⟩ v G' H' g r=>q v G' H' (g1.trans g) (.sh ⟨r.rd,fun hf=>j8 (Same.refl _) (fun _ _ _ z=>F1.keep.free z) (r.nw hf)⟩)) q⟩
  · obtain⟨w',ok'⟩:=w.argR g1.sub e
    refine⟨cln H1,cs',zcc H1,w',ok',Gd.mono _ _ _ (fun f d ⟨s,q⟩ v G' H' g r=>?_) q⟩
    have sc:zx d=true:=s.resolve_left ok;exact q v G1 H' (g1.trans ⟨Same.refl _,g.h,g1.sub.trans g.h,fun _ _ e=>.inl e⟩) (.sh (.sc sc (zdF sc r.rd)))
abbrev TX3:=Env3→(Bool→D→Env3→Prop)→Prop
def znl (K:PySem.W.Frag) (H0:Hp) (t:TX3):TE:=fun σ H Q=>∃ G0 ρ G,Fr3 K H0 G0 ρ σ G H∧t ρ fun f d ρ'=>∀ v G' H',Fr3 K H0 G0 ρ' σ G' H'→Rf K H0 G' f v d→Q v H'
structure PX3 (X:Cx) (H0:Hp) (e:Expr) (t:TX3):Prop where
  mono:∀ ρ (Q Q':Bool→D→Env3→Prop),(∀ f d ρ,Q f d ρ→Q' f d ρ)→t ρ Q→t ρ Q'
  ok:PE X e (znl X.K H0 t)
theorem zf5 {K:PySem.W.Frag} {G0:Hp} {ρ : Env3} {σ : L2.St} {G H:Hp} {sp:SpO} (mono:∀ o cs (Q Q':Ob→Bool→D→Prop),(∀ o f d,Q o f d→Q' o f d)→sp o cs Q→sp o cs Q') (F:Fr3 K H0 G0 ρ σ G H) {c:Cl} {v0:V} (hi:ρ[i]?=some (some c)) (hv:σ[i]?=some (some v0)) {o:Ob} (wo:ObAt K G H o) (ho:∀ a∈o.as,Has c v0 a)
    (W:Ob→Cl) (hw:∀ o' G' H',Gr G (bar H o.as) G' H'→ObAt K G' H' o'→o'.a=o.a→(∀ a∈o'.as,a∈o.as∨H a=none)→Vw K H0 G' H' v0 (W o')) (hc:∀ o' a,o'.a=o.a→Has (W o') v0 a→Has c v0 a∨a∈o'.as)
    {us:List V} {cs:List Cl} (w:Vws K H0 G H us cs) (ha:cs.all okA=true) {R:Bool→D→Env3→Prop} (h:sp o (cs.map argC) fun o' f d=>R f d (ρ.set i (some (W o')))) {Q:VK} {E:XK}
    (q:∀ f d ρ' v G' H',Fr3 K H0 G0 ρ' σ G' H'→Rf K H0 G' f v d→R f d ρ'→Q v H'):spO K sp (.ref o.a::us) H Q E:=by
  have hh:∀ a,bar H o.as a=none→H0 a=none:=fun a z=>by
    rcases zdj z with y|y
    · exact F.mine i c v0 a hi hv (ho a y)
    · exact F.keep.free y
  refine⟨G,o,us,cs.map argC,rfl,F.sub,wo,w.arg ha,zeV ha,mono _ _ _ _ (fun o' f d k v G' H' g wo' ea n' r=>?_) h⟩
  refine q f d _ v G' H' (F.led hi hv ho g (hw o' G' H' g wo' ea n') fun a z=>?_) ⟨r.rd,fun hf=>j8 (Same.refl _) (fun a _ _ z=>hh a z) (r.nw hf)⟩ k
  rcases hc o' a ea z with z|z
  · exact .inl z
  · exact(n' a z).imp (ho a) id
def jX (sp:SpO) (i:Nat) (t:TA3):TX3:=fun ρ R=>atB ρ[i]? fun o=>t ρ fun cs=>cs.all okA=true∧sp o (cs.map argC) fun o' f d=>R f d (ρ.set i (some (.ob o')))
theorem zfc {sp:SpO} {t:TA3} (hs:∀ o cs (Q Q':Ob→Bool→D→Prop),(∀ o f d,Q o f d→Q' o f d)→sp o cs Q→sp o cs Q') (ha:∀ ρ (Q Q':List Cl→Prop),(∀ c,Q c→Q' c)→t ρ Q→t ρ Q') (ρ : Env3) (Q Q':Bool→D→Env3→Prop) (h:∀ f d ρ,Q f d ρ→Q' f d ρ) (q:jX sp i t ρ Q):jX sp i t ρ Q':=by
  obtain⟨o,e,q⟩:=jf q;unfold jX;rw [e];exact ha ρ _ _ (fun cs ⟨a,q⟩=>⟨a,hs _ _ _ _ (fun o f d=>h f d _) q⟩) q
theorem zej {K:PySem.W.Frag} {G0:Hp} {ρ : Env3} {σ : L2.St} {G H:Hp} {sp:SpO} (mono:∀ o cs (Q Q':Ob→Bool→D→Prop),(∀ o f d,Q o f d→Q' o f d)→sp o cs Q→sp o cs Q') (F:Fr3 K H0 G0 ρ σ G H) {o:Ob} (hi:ρ[i]?=some (some (.ob o))) {us:List V} {cs:List Cl} (w:Vws K H0 G H us cs) (ha:cs.all okA=true) {R:Bool→D→Env3→Prop} (h:sp o (cs.map argC) fun o' f d=>R f d (ρ.set i (some (.ob o')))) {Q:VK} {E:XK}
    (q:∀ f d ρ' v G' H',Fr3 K H0 G0 ρ' σ G' H'→Rf K H0 G' f v d→R f d ρ'→Q v H'):spO K sp (.ref o.a::us) H Q E:=by
  obtain⟨hσ,wo⟩:=jE F hi;refine zf5 mono F hi hσ wo (fun a h=>h) Cl.ob (fun o' G' H' g wo' ea _=>?_) (fun o' a _ z=>.inr z) w ha h q
  rw [←ea];exact .ob wo'
theorem dfO {sp:SpO} {t:TA3} (Gd:DfO X.prog X.w X.K X.mg X.base k x ps sp) (hr:Room k X.A) (hg:Gl X x) (hx:Passes (CXR X.prog X.w) X E) (hN:X.N[i]?=some y) (hv:Vis X.env.scope y) (ha:PA3 X H0 es t) (hdb:(x==("__debug__" : Str))=false:=by decide)
    (hd:(y==("__debug__" : Str))=false:=by decide) (hcd:(y==("__classdict__" : Str))=false:=by decide)
    (he:starEach (.Name y np::es) X.env=(false,eval (.Name y np) X.env)::starEach es X.env:=by rfl) (hpl:(backTo pos (starEach es X.env)).any (·.1)=false:=by rfl):PX3 X H0 (.Call (.Name x p) (.Name y np::es) [] pos) (jX sp i t):=by
  refine⟨fun ρ=>zfc Gd.mono ha.mono ρ,PE.imp (zb9 Gd.ok hr hg hx (zR (z6 hN hv hd hcd) ha.ok he) hdb he hpl) fun σ H Q=>el5 fun G0 ρ G F q=>?_⟩
  obtain⟨o,hi,q⟩:=jf q;refine⟨.ref o.a,(jE F hi).1,G0,ρ,G,F,ha.mono ρ _ _ (fun cs ⟨ok,q⟩ us G1 H1 g1 w=>?_) q⟩
  show spO X.K sp ((.ref o.a::us)++[]) H1 Q E
  rw [List.append_nil];exact zej (R:=fun f d ρ'=>∀ v G' H',Fr3 X.K H0 G0 ρ' σ G' H'→Rf X.K H0 G' f v d→Q v H') Gd.mono (F.gr g1) hi w ok q fun f d ρ' v G' H' F' r k=>k v G' H' F' r
theorem dfM {sp:SpO} {t:TA3} {m:Str} {f:Addr} {fd:FuncData} {apos:Pos} {pl:Sem Bool} (hmo:∀ o cs (Q Q':Ob→Bool→D→Prop),(∀ o f d,Q o f d→Q' o f d)→sp o cs Q→sp o cs Q') (hc:Cls X.K LamW.C) (hm:Meth X.K LamW.C m f) (Fn:FnOk X.prog X.w X.K X.mg X.base (CXR X.prog X.w) k f fd ps (spO X.K sp)) (hr:Room k X.A) (hb:Binds X.K fd ps []) (hx:Passes (CXR X.prog X.w) X E) (hN:X.N[i]?=some y) (hv:Vis X.env.scope y) (ha:PA3 X H0 (e::es) t)
    (hn:∀ vs:List V,(dN.zip vs).lookup m=none) (hd:(y==("__debug__" : Str))=false:=by decide) (hcd:(y==("__classdict__" : Str))=false:=by decide)
    (he:starEach (e::es) X.env=(false,eval e X.env)::starEach es X.env:=by rfl) (hpl:(backTo pos (starEach es X.env)).any (·.1)=false:=by rfl)
    (ht:eval (.Call (.Attribute (.Name y np) m apos) (e::es) [] pos) X.env=(do
      let ov ←eval (.Name y np) X.env
      standAt apos.atName
      let (f,first) ←holding [ov] (getMethod ov m pl)
      callWith pos f first (backTo pos (starEach (e::es) X.env)) (backToKw pos (keywordEach [] X.env))):=by rfl):PX3 X H0 (.Call (.Attribute (.Name y np) m apos) (e::es) [] pos) (fun ρ R=>(atB ρ[i]? fun o=>o.k.isSome=true)∧jX sp i t ρ R):=by
  refine⟨fun ρ Q Q' h ⟨a,q⟩=>⟨a,zfc hmo ha.mono ρ Q Q' h q⟩,PE.imp (ziP (z6 hN hv hd hcd) hc hm Fn hr hb .nil hx ha.ok he hpl ht) fun σ H Q=>el5 fun G0 ρ G F ⟨z,q⟩=>?_⟩
  obtain⟨o,hi,q⟩:=jf q;rw [hi] at z;have z:o.k.isSome=true:=z;obtain⟨hσ,wo⟩:=jE F hi;obtain⟨vs,a1,_⟩:=wo.top;cases ek:o.k with
  | none=>rw [ek] at z;cases z
  | some dx=>
    rw [ek] at a1;refine⟨.ref o.a,hσ,o.a,dx,_,rfl,a1,hn vs,G0,ρ,G,F,ha.mono ρ _ _ (fun cs ⟨ok,q⟩ us G1 H1 g1 w=>?_) q⟩
    show spO X.K sp (.ref o.a::(us++[])) H1 Q E
    rw [List.append_nil];exact zej (R:=fun f d ρ'=>∀ v G' H',Fr3 X.K H0 G0 ρ' σ G' H'→Rf X.K H0 G' f v d→Q v H') hmo (F.gr g1) hi w ok q fun f d ρ' v G' H' F' r k=>k v G' H' F' r
def atL (o:Option (Option Cl)) (P:Addr→List Ob→Prop):Prop:=match o with
  | some (some (.lo a os))=>P a os
  | _=>False
theorem zan {o:Option (Option Cl)} {P:Addr→List Ob→Prop} (h:atL o P):∃ a os,o=some (some (.lo a os))∧P a os:=by
  unfold atL at h
  split at h
  · exact⟨_,_,rfl,h⟩
  · exact h.elim
def Jr (sp:SpO) (i:Nat) (te:TE3) (t:TA3):TX3:=fun ρ R=>atL ρ[i]? fun a os=>te ρ fun c=>asI c fun n=>0≤n∧optP os[n.toNat]? fun o=>t ρ fun cs=>cs.all okA=true∧sp o (cs.map argC) fun o' f d=>R f d (ρ.set i (some (.lo a (os.set n.toNat o'))))
theorem Zn {K:PySem.W.Frag} {G0:Hp} {ρ : Env3} {σ : L2.St} {G H:Hp} (F:Fr3 K H0 G0 ρ σ G H) {a:Addr} {os:List Ob} (h:ρ[i]?=some (some (.lo a os))):σ[i]?=some (some (.ref a))∧H a=some (.lst (os.map fun o=>V.ref o.a))∧G a=none∧(∀ o∈os,ObAt K G H o)∧(a::os.flatMap Ob.as).Nodup:=by
  obtain⟨v,h1,h2⟩:=F.slot i _ h;cases h2 with
  | lo p n w nd=>exact⟨h1,p,n,w,nd⟩
theorem dfL {sp:SpO} {t:TA3} {te:TE3} {ip:Pos} (Gd:DfO X.prog X.w X.K X.mg X.base k x ps sp) (hr:Room k X.A) (hg:Gl X x) (hx:Passes (CXR X.prog X.w) X E) (hN:X.N[i]?=some y) (hv:Vis X.env.scope y) (hi:PE3 X H0 e te) (ha:PA3 X H0 es t) (hix:JA e:=by exact fun _ _=>rfl) (hdb:(x==("__debug__" : Str))=false:=by decide)
    (hd:(y==("__debug__" : Str))=false:=by decide) (hcd:(y==("__classdict__" : Str))=false:=by decide)
    (he:starEach (.Subscript (.Name y np) e ip::es) X.env=(false,eval (.Subscript (.Name y np) e ip) X.env)::starEach es X.env:=by rfl) (hpl:(backTo pos (starEach es X.env)).any (·.1)=false:=by rfl):PX3 X H0 (.Call (.Name x p) (.Subscript (.Name y np) e ip::es) [] pos) (Jr sp i te t):=by
  refine⟨fun ρ Q Q' h q=>?_,PE.imp (zb9 Gd.ok hr hg hx (zR (zaj zbu (z6 hN hv hd hcd) hi.ok hix) ha.ok he) hdb he hpl) fun σ H Q=>el5 fun G0 ρ G F q=>?_⟩
  · obtain⟨a,os,e1,q⟩:=zan q
    unfold Jr;rw [e1];refine hi.mono ρ _ _ (fun c q=>?_) q
    obtain⟨n,rfl,z,q⟩:=jJ q;obtain⟨o,e2,q⟩:=z8 q;refine⟨z,?_⟩;rw [e2];exact ha.mono ρ _ _ (fun cs ⟨a,q⟩=>⟨a,Gd.mono _ _ _ _ (fun o f d=>h f d _) q⟩) q
  obtain⟨a,os,e1,q⟩:=zan q;obtain⟨hσ,a1,_⟩:=Zn F e1;refine⟨.ref a,hσ,G0,ρ,G,F,hi.mono ρ _ _ (fun c q0 v G1 H1 g1 w1=>?_) q⟩
  obtain⟨n,rfl,z,q⟩:=jJ q0;have rv:=zy (zi w1).rd;subst rv;obtain⟨o,e2,q⟩:=z8 q;obtain⟨_,b1,_⟩:=Zn (F.gr g1) e1;have hlt:n.toNat<os.length:=(List.getElem?_eq_some_iff.mp e2).1;refine⟨a,_,n,.ref o.a,rfl,rfl,SqL.of b1,?_,G0,ρ,G1,F.gr g1,ha.mono ρ _ _ (fun cs ⟨ok,q⟩ us G2 H2 g2 w=>?_) q⟩
  · unfold atI
    rw [jD z (by rw [List.length_map];omega),Option.bind_some,List.getElem?_map,e2];rfl
  show spO X.K sp ((.ref o.a::us)++[]) H2 Q E
  rw [List.append_nil];have F2:=(F.gr g1).gr g2;obtain⟨hσ2,c1,c2,c3,c4⟩:=Zn F2 e1;obtain⟨n1,n2⟩:=List.nodup_cons.mp c4;have hmem:o∈os:=List.mem_of_getElem? e2;have old:∀ b∈a::os.flatMap Ob.as,H2 b≠none:=fun b h z=>by
    obtain⟨⟨u,e,_⟩,_⟩:=(F2.vw e1 hσ2).mn (a:=b) h;rw [e] at z;cases z
  refine zf5 (R:=fun f d ρ'=>∀ v G' H',Fr3 X.K H0 G0 ρ' σ G' H'→Rf X.K H0 G' f v d→Q v H') Gd.mono F2 e1 hσ2 (c3 o hmem) (fun b h=>List.mem_cons_of_mem _ (zP e2 h)) (fun o'=>.lo a (os.set n.toNat o')) (fun o' G' H' g wo' ea n'=>?_) (fun o' b ea h=>?_) w ok q fun f d ρ' v G' H' F' r k=>k v G' H' F' r
  · have na:a∉o.as:=fun h=>n1 (zP e2 h)
    have nt:∀ b∈a::os.flatMap Ob.as,b∉o.as→H' b=H2 b∧G' b=G2 b:=fun b hb nb=>by
      obtain⟨⟨u,e,no,nt⟩,hG⟩:=(F2.vw e1 hσ2).mn (a:=b) hb;have hb':bar H2 o.as b=some u:=(jF nb).trans e;exact⟨(g.h.at hb' no).trans e.symm,(g.hid hb' hG no fun xs z=>nt xs (Option.some.inj (hb'.symm.trans z))).trans hG.symm⟩
    obtain⟨d1,d2⟩:=nt a List.mem_cons_self na;refine .lo ?_ (d2.trans c2) (fun p hp=>?_) (List.nodup_cons.mpr ⟨fun h=>?_,zds n2 e2 wo'.nd fun b hb=>(n' b hb).imp id fun z h=>old b (List.mem_cons_of_mem _ h) z⟩)
    · rw [d1,c1,List.map_set,ea]
      congr 2
      refine(List.ext_getElem? fun m=>?_)
      by_cases hm:n.toNat=m
      · subst hm;rw [List.getElem?_set_self (by rw [List.length_map];exact hlt),List.getElem?_map,e2];rfl
      · rw [List.getElem?_set_ne hm]
    · obtain⟨m,hm⟩:=List.getElem?_of_mem hp
      rcases zO hm with ⟨rfl,rfl,_⟩|⟨nm,hm⟩
      · exact wo'
      · refine(c3 p (List.mem_of_getElem? hm)).mv g.g fun b hb=>nt b (List.mem_cons_of_mem _ (zP hm hb)) fun h=>nm (zaB n2 e2 hm h hb)
    · rcases JP h with h|⟨m,p,_,h1,h2⟩
      · rcases n' a h with h|h
        · exact na h
        · exact old a List.mem_cons_self h
      · exact n1 (zP h1 h2)
  · rcases List.mem_cons.mp h with h|h
    · rw [h];exact .inl List.mem_cons_self
    · rcases JP h with h|⟨m,p,_,h1,h2⟩
      · exact .inr h
      · exact .inl (List.mem_cons_of_mem _ (zP h1 h2))
end
variable [LamW]
section
variable {X:Cx} {H0:Hp} {e e2:Expr} {pos p np:Pos} {x y:Str} {k i:Nat} {t:TX3}
def zbg (i:Nat) (t:TX3):TS3:=fun A ρ=>t ρ fun f d ρ'=>A.nx (ρ'.set i (some (.sh f d)))
theorem zoH {pos':Pos} (hN:X.N.Nodup) (hi:X.N[i]?=some y) (hy:Loc X.env.scope y) (he:PX3 X H0 e t) (hs:swapsWith e (some (.Name y pos')) pos.line X.env=pure false:=by rfl)
    (hf:X.fn y=true∨X.env.scope.names.lookup y=some .local:=by first|exact .inl rfl|exact .inr rfl|assumption):PS3 X H0 (.Assign [.Name y pos'] e pos) (zbg i t):=PS.imp (Zt hN hi hy he.ok hs hf) fun B σ H=>el7 fun G0 A ρ G F q L=>
  ⟨G0,ρ,G,F,he.mono ρ _ _ (fun f d ρ' q v G' H' F' r=>L.nx _ _ G' H' (F'.set r) q) q⟩
def Zy (t:TX3) (g:TG3):TS3:=fun A ρ=>t ρ fun f d ρ'=>g f d ρ' A.nx
theorem ziE {tg:Expr} {g:TG3} (he:PX3 X H0 e t) (hg:PG3 X H0 tg g) (hs:swapsWithSole [tg] e pos.line X.env=pure false:=by rfl) (hw:swappedStores [tg] e X.env=pure none:=by rfl)
    (h1:(assignEach [tg] X.env).map (·.2)=[assign tg X.env]:=by rfl):PS3 X H0 (.Assign [tg] e pos) (Zy t g):=PS.imp (zbZ he.ok hg.ok hs hw h1) fun B σ H=>el7 fun G0 A ρ G F q L=>
  ⟨G0,ρ,G,F,he.mono ρ _ _ (fun f d ρ' q v G' H' F' r=>⟨G0,ρ',G',f,d,F',r,hg.mono f d ρ' _ _ (fun ρ2 q σ2 G2 H2 F2 _ _=>L.nx ρ2 σ2 G2 H2 F2 q) q⟩) q⟩
def zaN (te:TE3):TS3:=fun A ρ=>te ρ fun c=>asS c fun f d=>A.rm (.sh f d) ρ
theorem zU {te:TE3} (he:PE3 X H0 e te):PS3 X H0 (.Return (some e) pos) (zaN te):=PS.imp (zat he.ok) fun B σ H=>el7 fun G0 A ρ G F q L=>
  ⟨G0,ρ,G,F,he.mono ρ _ _ (fun c hyp v G' H' g w=>by
    obtain⟨f,d,hc,q⟩:=jS hyp;subst hc;exact L.rm _ v ρ σ G' H' (F.gr g) w (fun a z=>False.elim z) q) q⟩
def zas (t:TX3):TS3:=fun A ρ=>t ρ fun f d ρ'=>A.rm (.sh f d) ρ'
theorem zhb (he:PX3 X H0 e t):PS3 X H0 (.Return (some e) pos) (zas t):=PS.imp (zat he.ok) fun B σ H=>el7 fun G0 A ρ G F q L=>
  ⟨G0,ρ,G,F,he.mono ρ _ _ (fun f d ρ' q v G' H' F' r=>L.rm _ v ρ' σ G' H' F' (.sh r) (fun a z=>False.elim z) q) q⟩
def Z0 (t:TX3) (s:Str):TS3:=fun A ρ=>t ρ fun f d ρ'=>A.rm (.sh f (.tuple [d,.str s])) ρ'
theorem zek {s:Str} {c x1:Nat} {cp tp:Pos} (he:PX3 X H0 e t) (hs1:starEach [e,.Constant (.str s) c cp] X.env=(false,eval e X.env)::starEach [.Constant (.str s) c cp] X.env:=by rfl) (hs2:starEach [.Constant (.str s) c cp] X.env=(false,eval (.Constant (.str s) c cp) X.env)::starEach [] X.env:=by rfl):PS3 X H0 (.Return (some (.Tuple [e,.Constant (.str s) c cp] x1 tp)) pos) (Z0 t s):=PS.imp (zat (ze2 (zR he.ok (zR ZK zQ hs2) hs1))) fun B σ H=>el7 fun G0 A ρ G F q L=>
  ⟨G0,ρ,G,F,he.mono ρ _ _ (fun f d ρ' q v G' H' F' r=>⟨show 2≤sizeLine by decide,fun p hp=>by
    have g:=Gr.put (o:=.tup [v,.str s]) F'.sub hp;have r':=r.same g.g;exact L.rm _ (.ref p) ρ' σ _ _ (F'.gr g) (.sh ⟨.tup (SqT.of zh) (.cons r'.rd (.cons (.str s) .nil)),fun hf=>.tup zh (.cons (r'.nw hf) (.cons (.str s) .nil))⟩) (fun a z=>False.elim z) q⟩) q⟩
def ifX3 (t:TX3) (u v:TS3):TS3:=fun A ρ=>t ρ fun _ d ρ'=>asD d fun k=>if k=true then v A ρ' else u A ρ'
theorem zfa {xs ys:List Stmt} {u v:TS3} {up:Pos} (he:PX3 X H0 e t) (ha:PSs3 X H0 xs u) (hb:PSs3 X H0 ys v) (hv:∀ whole,isTrue e X.env whole=(do let v ←whole;standAt e.pos;holding [v] (truthy v)):=by intro _;rfl):PS3 X H0 (.If (.UnaryOp .Not e up) xs ys pos) (ifX3 t u v):=PS.imp (zgv (zgB (zfL he.ok hv)) ha hb) fun B σ H=>el7 fun G0 A ρ G F q L=>
  ⟨G0,ρ,G,F,he.mono ρ _ _ (fun f d ρ' q w G' H' F' r=>by
    cases d with
    | bool k=>
      cases zb3 r.rd
      refine⟨k,rfl,?_⟩
      cases k with
      | true=>exact⟨G0,A,ρ',G',F',q,L⟩
      | false=>exact⟨G0,A,ρ',G',F',q,L⟩
    | _=>exact q.elim) q⟩
def J3 (i:Nat) (te:TE3):TE3:=fun ρ Q=>atL ρ[i]? fun _ os=>te ρ fun c=>asI c fun n=>0≤n∧optP os[n.toNat]? fun o=>Q (.ob o)
theorem zl6 {te:TE3} (hN:X.N[i]?=some y) (hv:Vis X.env.scope y) (hi:PE3 X H0 e te) (hix:JA e:=by exact fun _ _=>rfl) (hd:(y==("__debug__" : Str))=false:=by decide) (hcd:(y==("__classdict__" : Str))=false:=by decide):PE3 X H0 (.Subscript (.Name y np) e pos) (J3 i te):=by
  refine⟨fun ρ Q Q' h q=>?_,PE.imp (zaj zbu (z6 hN hv hd hcd) hi.ok hix) fun σ H Q=>el5 fun G0 ρ G F q=>?_⟩
  · obtain⟨a,os,e1,q⟩:=zan q
    unfold J3;rw [e1];refine hi.mono ρ _ _ (fun c q=>?_) q
    obtain⟨n,rfl,z,q⟩:=jJ q;obtain⟨o,e2,q⟩:=z8 q;refine⟨z,?_⟩;rw [e2];exact h _ q
  obtain⟨a,os,e1,q⟩:=zan q;obtain⟨hσ,a1,_⟩:=Zn F e1;refine⟨.ref a,hσ,G0,ρ,G,F,hi.mono ρ _ _ (fun c q0 v G1 H1 g1 w1=>?_) q⟩
  obtain⟨n,rfl,z,q⟩:=jJ q0;have rv:=zy (zi w1).rd;subst rv;obtain⟨o,e2,q⟩:=z8 q;obtain⟨_,b1,_,b3,_⟩:=Zn (F.gr g1) e1;have hlt:n.toNat<os.length:=(List.getElem?_eq_some_iff.mp e2).1;refine⟨a,_,n,.ref o.a,rfl,rfl,SqL.of b1,?_,q _ G1 H1 g1 (.ob (b3 o (List.mem_of_getElem? e2)))⟩;unfold atI;rw [jD z (by rw [List.length_map];omega),Option.bind_some,List.getElem?_map,e2];rfl
end
end L3
namespace L2
theorem ja {H:Hp} {a b:PySem.Addr} {o:HO} (h:upd H a o b=none):b≠a∧H b=none:=by
  have n:b≠a:=fun z=>by rw [z,zh] at h;cases h
  rw [zd n] at h;exact⟨n,h⟩
end L2
namespace L3
open PySem PySem.Spec PyProof.Rows L2
variable [LamW]
section
variable {K:PySem.W.Frag} {H0 G0:Hp} {ρ : Env3} {σ : L2.St} {G H G' H':Hp}
theorem Fr3.putN (F:Fr3 K H0 G0 ρ σ G H) {i:Nat} {v:V} {c:Cl} (w:Vw K H0 G H v c) (h0:∀ a,Has c v a→H0 a=none) (hn:∀ (a:Addr) (j:Nat) (c':Cl) (v':V),Has c v a→ρ[j]?=some (some c')→σ[j]?=some (some v')→¬Has c' v' a):Fr3 K H0 G0 (ρ.set i (some c)) (σ.set i (some v)) G H:=by
  have key:∀ {k:Nat} {c':Cl},(ρ.set i (some c))[k]?=some (some c')→(k=i∧c'=c∧(σ.set i (some v))[k]?=some (some v))∨(k≠i∧ρ[k]?=some (some c')∧(σ.set i (some v))[k]? = σ[k]?):=fun {k c'} e=>by
    rcases zO e with ⟨rfl,q,hl⟩|⟨n,q⟩
    · cases q
      exact .inl ⟨rfl,rfl,List.getElem?_set_self (by rw [←F.len];exact hl)⟩
    · exact .inr ⟨Ne.symm n,q,List.getElem?_set_ne n⟩
  refine⟨F.keep,F.sub,F.old,F.g0,fun k c' e=>?_,fun k c' v' a e e' h=>?_,fun k m c1 c2 v1 v2 a e1 e2 e3 e4 h1 h2=>?_,by rw [List.length_set,List.length_set];exact F.len⟩
  · rcases key e with ⟨rfl,rfl,q⟩|⟨n,q,z⟩
    · exact⟨v,q,w⟩
    · obtain⟨v',h1,h2⟩:=F.slot k c' q
      exact⟨v',by rw [z];exact h1,h2⟩
  · rcases key e with ⟨rfl,rfl,q⟩|⟨n,q,z⟩
    · rw [q] at e';cases e';exact h0 a h
    · rw [z] at e';exact F.mine k c' v' a q e' h
  · rcases key e1 with ⟨rfl,rfl,q⟩|⟨n,q,z⟩
    · rw [q] at e3;cases e3
      rcases key e2 with ⟨rfl,_,_⟩|⟨n,q',z⟩
      · rfl
      · rw [z] at e4;exact absurd h2 (hn a m c2 v2 h1 q' e4)
    · rw [z] at e3
      rcases key e2 with ⟨rfl,rfl,q'⟩|⟨n',q',z'⟩
      · rw [q'] at e4;cases e4;exact absurd h1 (hn a k c1 v1 h2 q e3)
      · rw [z'] at e4;exact F.apart k m c1 c2 v1 v2 a q q' e3 e4 h1 h2
def newM (p l1 l2 l3 l4 l5:Addr):Ob:=⟨none,p,[.ow l1 [],.ow l2 [],.ow l3 [],.tp l4 [] [],.ow l5 [],.sh .none]⟩
def newD (dx p l1 l2 l3 l5:Addr):Ob:=⟨some dx,p,[.ow l1 [],.ow l2 [],.ow l3 [],.sh (.list []),.ow l5 [],.sh .none]⟩
theorem znI {p l1 l2 l3 l4 l5:Addr} (h:H p=some (obO none [.ref l1,.ref l2,.ref l3,.ref l4,.ref l5,.non])) (nd:[p,l1,l2,l3,l4,l5].Nodup) (hl:∀ l∈[l1,l2,l3,l4,l5],H l=some (.lst [])) (hg:∀ l∈[p,l1,l2,l3,l4,l5],G l=none):ObAt K G H (newM p l1 l2 l3 l4 l5):=by
  have l (x:Addr) (m:x∈[l1,l2,l3,l4,l5]):FlAt K G H (.ref x) (.ow x []):=.ow (hl x m) .nil (hg x (List.mem_cons_of_mem _ m));refine⟨⟨_,h,rfl,rfl,fun j fl e=>?_⟩,hg p List.mem_cons_self,nd⟩
  match j,e with
  | 0,e=>cases e;exact⟨_,rfl,l l1 (by simp)⟩
  | 1,e=>cases e;exact⟨_,rfl,l l2 (by simp)⟩
  | 2,e=>cases e;exact⟨_,rfl,l l3 (by simp)⟩
  | 3,e=>cases e;exact⟨_,rfl,.tp ⟨hl l4 (by simp),hg l4 (by simp),rfl,fun k q m e _=>by simp at e⟩⟩
  | 4,e=>cases e;exact⟨_,rfl,l l5 (by simp)⟩
  | 5,e=>cases e;exact⟨_,rfl,.sh .non⟩
  | n+6,e=>cases e
theorem zeM {dx p l1 l2 l3 l4 l5:Addr} (h:H p=some (obO (some dx) [.ref l1,.ref l2,.ref l3,.ref l4,.ref l5,.non])) (nd:[p,l1,l2,l3,l5].Nodup) (hl:∀ l∈[l1,l2,l3,l5],H l=some (.lst [])) (hg:∀ l∈[p,l1,l2,l3,l5],G l=none) (h4:G l4=some (.lst [])):ObAt K G H (newD dx p l1 l2 l3 l5):=by
  have l (x:Addr) (m:x∈[l1,l2,l3,l5]):FlAt K G H (.ref x) (.ow x []):=.ow (hl x m) .nil (hg x (List.mem_cons_of_mem _ m));refine⟨⟨_,h,rfl,rfl,fun j fl e=>?_⟩,hg p List.mem_cons_self,nd⟩
  match j,e with
  | 0,e=>cases e;exact⟨_,rfl,l l1 (by simp)⟩
  | 1,e=>cases e;exact⟨_,rfl,l l2 (by simp)⟩
  | 2,e=>cases e;exact⟨_,rfl,l l3 (by simp)⟩
  | 3,e=>cases e;exact⟨_,rfl,.sh (.lst (SqL.of h4) .nil)⟩
  | 4,e=>cases e;exact⟨_,rfl,l l5 (by simp)⟩
  | 5,e=>cases e;exact⟨_,rfl,.sh .non⟩
  | n+6,e=>cases e
end
section
variable {X:Cx} {H0:Hp} {e:Expr} {pos p np:Pos} {x y:Str} {k i:Nat}
def zam (i:Nat):TS3:=fun A ρ=>∀ a,A.nx (ρ.set i (some (.lo a [])))
theorem zi9 {pos':Pos} (hN:X.N.Nodup) (hi:X.N[i]?=some y) (hy:Loc X.env.scope y) (hs:swapsWith (.List [] p) (some (.Name y pos')) pos.line X.env=pure false:=by rfl)
    (hf:X.fn y=true∨X.env.scope.names.lookup y=some .local:=by first|exact .inl rfl|exact .inr rfl|assumption):PS3 X H0 (.Assign [.Name y pos'] (.List [] p) pos) (zam i):=PS.imp (Zt hN hi hy (jT zQ) hs hf) fun B σ H=>el7 fun G0 A ρ G F q L=>
  ⟨Nat.zero_le _,fun a ha=>L.nx _ _ G _ (F.put (z5 ha _).x (.lo (os:=[]) zh (F.sub.free ha) (fun o h=>by cases h) (List.nodup_cons.mpr ⟨by simp,List.nodup_nil⟩)) fun b h=>by rw [List.mem_singleton.mp h];exact ha) (q a)⟩
theorem zaW {x:Str} {n:Nat} {dp q r:Pos} {vs:List Expr} {ks:List (Option Expr)} {trs:List (TE×TE)} (h:PPs X dp ks vs trs):PPs X dp (some (.Constant (.str x) n q)::ks) (.List [] r::vs) ((tC (.str x),tLst tNil)::trs):=zgO ZK (jT zQ) h
theorem zl8 {x:Str} {n m:Nat} {dp q r:Pos}:PPs X dp [some (.Constant (.str x) n q)] [.Constant .none m r] [(tC (.str x),tC .non)]:=zgO ZK zdz zmE
theorem zlN {a b c d e f:Str} {n1 n2 n3 n4 n5 n6 n7:Nat} {q1 q2 q3 q4 q5 q6 r1 r2 r3 r4 r5 r6 dp:Pos}:PE X (.Dict [some (.Constant (.str a) n1 q1),some (.Constant (.str b) n2 q2),some (.Constant (.str c) n3 q3),some (.Constant (.str d) n4 q4),some (.Constant (.str e) n5 q5),some (.Constant (.str f) n6 q6)] [.List [] r1,.List [] r2,.List [] r3,.List [] r4,.List [] r5,.Constant .none n7 r6] dp)
    (zc2 [(tC (.str a),tLst tNil),(tC (.str b),tLst tNil),(tC (.str c),tLst tNil),(tC (.str d),tLst tNil),(tC (.str e),tLst tNil),(tC (.str f),tC .non)]):=by
  refine ziU ?_ ?_ ?_ ?_ ?_
  · refine zaW ?_
    refine zaW ?_
    refine zaW ?_
    refine zaW ?_
    refine zaW ?_
    exact zl8
  · rfl
  · rfl
  · exact List.cons_ne_nil _ _
  · show 6≤15;decide
def za5 (i:Nat):TS3:=fun A ρ=>atL ρ[i]? fun a os=>os.length<sizeLine∧∀ p l1 l2 l3 l4 l5,A.nx (ρ.set i (some (.lo a (os++[newM p l1 l2 l3 l4 l5]))))
theorem zn2 {a b c d e f:V}:J9 [] ((mN.map Sum.inr:List Key).zip [a,b,c,d,e,f])=(mN.map Sum.inr:List Key).zip [a,b,c,d,e,f]:=by rfl
theorem zkp {n1 n2 n3 n4 n5 n6 n7:Nat} {q1 q2 q3 q4 q5 q6 r1 r2 r3 r4 r5 r6 dp apos cpos:Pos} (hN:X.N[i]?=some y) (hv:Vis X.env.scope y) (hd:(y==("__debug__" : Str))=false:=by decide) (hcd:(y==("__classdict__" : Str))=false:=by decide)
    (hb:attributeBase (.Name y np) "append" X.env (eval (.Name y np) X.env)=eval (.Name y np) X.env:=by rfl) {de:Expr} (hde:de=.Dict [some (.Constant (.str "names") n1 q1),some (.Constant (.str "weights") n2 q2),some (.Constant (.str "limits") n3 q3),some (.Constant (.str "spells") n4 q4),some (.Constant (.str "rules") n5 q5),some (.Constant (.str "row") n6 q6)] [.List [] r1,.List [] r2,.List [] r3,.List [] r4,.List [] r5,.Constant .none n7 r6] dp:=by rfl)
    (hf:((backTo cpos (starEach [de] X.env)).all (fun x=>!x.1)&&(backToKw cpos (keywordEach [] X.env)).all (fun x=>x.1.isSome)&&decide ([de].length+([]:List Keyword).length+(if([]:List Keyword).isEmpty then 0 else 1)<30))=true:=by rfl)
    (hl:(apos.endLine==cpos.line)=true:=by rfl) (hs:starEach [de] X.env=(false,eval de X.env)::starEach [] X.env:=by rfl) (hp:(backTo cpos (starEach [] X.env)).any (·.1)=false:=by rfl)
    (hw:swapsWith (.Call (.Attribute (.Name y np) "append" apos) [de] [] cpos) none pos.line X.env=pure false:=by rfl):PS3 X H0 (.Expr (.Call (.Attribute (.Name y np) "append" apos) [de] [] cpos) pos) (za5 i):=by
  have hpe:PE X de (zc2 [(tC (.str "names"),tLst tNil),(tC (.str "weights"),tLst tNil),(tC (.str "limits"),tLst tNil),(tC (.str "spells"),tLst tNil),(tC (.str "rules"),tLst tNil),(tC (.str "row"),tC .non)]):=by
    have:=@zlN _ X "names" "weights" "limits" "spells" "rules" "row" n1 n2 n3 n4 n5 n6 n7 q1 q2 q3 q4 q5 q6 r1 r2 r3 r4 r5 r6 dp;subst hde
    with_reducible exact this
  refine PS.imp (Zr (zai (z6 hN hv hd hcd) (zR hpe zQ hs) hb hf hl hs hp) hw) fun B σ H hyp=>?_
  obtain⟨G0,A,ρ,G,F,q,L⟩:=hyp;obtain⟨a,os,e1,hz,q⟩:=zan q;obtain⟨hσ,a1,a2,a3,a4⟩:=Zn F e1;refine⟨.ref a,hσ,zaw a1,fun p hp=>⟨Nat.zero_le _,fun l1 h1=>⟨Nat.zero_le _,fun l2 h2=>⟨Nat.zero_le _,fun l3 h3=>⟨Nat.zero_le _,fun l4 h4=>⟨Nat.zero_le _,fun l5 h5=>?_⟩⟩⟩⟩⟩⟩
  obtain⟨n54,h5⟩:=ja h5;obtain⟨n53,h5⟩:=ja h5;obtain⟨n52,h5⟩:=ja h5;obtain⟨n51,h5⟩:=ja h5;obtain⟨n5p,h5⟩:=ja h5;obtain⟨n43,h4⟩:=ja h4;obtain⟨n42,h4⟩:=ja h4;obtain⟨n41,h4⟩:=ja h4;obtain⟨n4p,h4⟩:=ja h4;obtain⟨n32,h3⟩:=ja h3;obtain⟨n31,h3⟩:=ja h3;obtain⟨n3p,h3⟩:=ja h3;obtain⟨n21,h2⟩:=ja h2;obtain⟨n2p,h2⟩:=ja h2;obtain⟨n1p,h1⟩:=ja h1
  have nd:[p,l1,l2,l3,l4,l5].Nodup:=by simp [Ne.symm n1p,Ne.symm n2p,Ne.symm n3p,Ne.symm n4p,Ne.symm n5p,Ne.symm n21,Ne.symm n31,Ne.symm n41,Ne.symm n51,Ne.symm n32,Ne.symm n42,Ne.symm n52,Ne.symm n43,Ne.symm n53,Ne.symm n54]
  have nn:∀ l∈[p,l1,l2,l3,l4,l5],H l=none:=by
    intro l hl;simp only [List.mem_cons,List.not_mem_nil,or_false] at hl
    rcases hl with rfl|rfl|rfl|rfl|rfl|rfl<;>assumption
  have H7:∃ H7,H7=upd (upd (upd (upd (upd (upd (upd H p (.dK [])) l1 (.lst [])) l2 (.lst [])) l3 (.lst [])) l4 (.lst [])) l5 (.lst [])) p (obO none [.ref l1,.ref l2,.ref l3,.ref l4,.ref l5,.non]):=⟨_,rfl⟩;obtain⟨H7,e7⟩:=H7;have old:∀ b u,H b=some u→H7 b=some u:=fun b u e=>by
    have ne:∀ l∈[p,l1,l2,l3,l4,l5],b≠l:=fun l m=>zG e (nn l m)
    rw [e7,zd (ne p (by simp)),zd (ne l5 (by simp)),zd (ne l4 (by simp)),zd (ne l3 (by simp)),zd (ne l2 (by simp)),zd (ne l1 (by simp)),zd (ne p (by simp))];exact e
  have g5:H7 l5=some (.lst []):=by rw [e7,zd n5p,zh]
  have g4:H7 l4=some (.lst []):=by rw [e7,zd n4p,zd (Ne.symm n54),zh]
  have g3:H7 l3=some (.lst []):=by rw [e7,zd n3p,zd (Ne.symm n53),zd (Ne.symm n43),zh]
  have g2:H7 l2=some (.lst []):=by rw [e7,zd n2p,zd (Ne.symm n52),zd (Ne.symm n42),zd (Ne.symm n32),zh]
  have g1:H7 l1=some (.lst []):=by rw [e7,zd n1p,zd (Ne.symm n51),zd (Ne.symm n41),zd (Ne.symm n31),zd (Ne.symm n21),zh]
  have gp:H7 p=some (obO none [.ref l1,.ref l2,.ref l3,.ref l4,.ref l5,.non]):=by rw [e7,zh]
  refine⟨by rw [zd (Ne.symm n5p),zd (Ne.symm n4p),zd (Ne.symm n3p),zd (Ne.symm n2p),zd (Ne.symm n1p),zh],(mN.map Sum.inr:List Key).zip [.ref l1,.ref l2,.ref l3,.ref l4,.ref l5,.non],rfl,show 6≤15 by decide,?_⟩
  rw [zn2];show ∃ _,_;have e7':upd (upd (upd (upd (upd (upd (upd H p (.dK [])) l1 (.lst [])) l2 (.lst [])) l3 (.lst [])) l4 (.lst [])) l5 (.lst [])) p (.dK ((mN.map Sum.inr:List Key).zip [.ref l1,.ref l2,.ref l3,.ref l4,.ref l5,.non]))=H7:=e7.symm;rw [e7'];refine⟨a,_,.ref p,rfl,rfl,old _ _ a1,by rw [List.length_map];exact hz,L.nx _ _ _ _ (F.led (as:=[a]) e1 hσ (fun b h=>by rw [List.mem_singleton.mp h];exact List.mem_cons_self) (Gr.barred F.sub (fun b h=>by rw [List.mem_singleton.mp h];exact a2) fun b u nb e=>by rw [zd (fun z=>nb (by rw [z];exact List.mem_cons_self))];exact old b u e) (c':=.lo a (os++[newM p l1 l2 l3 l4 l5])) ?_ fun b h=>?_) (q p l1 l2 l3 l4 l5)⟩
  · have na:∀ l∈[p,l1,l2,l3,l4,l5],l≠a:=fun l m z=>by rw [←z,nn l m] at a1;cases a1
    obtain⟨nd1,nd2⟩:=List.nodup_cons.mp a4;have oldm:∀ b∈a::os.flatMap Ob.as,H b≠none:=fun b h z=>by
      obtain⟨⟨u,e,_⟩,_⟩:=(F.vw e1 hσ).mn (a:=b) h;rw [e] at z;cases z
    refine .lo (by rw [zh,List.map_append];rfl) a2 (fun o ho=>?_) ?_
    · rcases List.mem_append.mp ho with ho|ho
      · refine(a3 o ho).mv (Same.refl _) fun b hb=>⟨?_,rfl⟩
        obtain⟨⟨u,e,_⟩,_⟩:=(a3 o ho).has hb;rw [zd (fun z:b=a=>nd1 (z ▸ List.mem_flatMap.mpr ⟨o,ho,hb⟩)),e,old b u e]
      · rw [List.mem_singleton.mp ho]
        refine znI (by rw [zd (na p (by simp))];exact gp) nd (fun l m=>?_) fun l m=>F.sub.free (nn l m)
        rw [zd (na l (List.mem_cons_of_mem _ m))];simp only [List.mem_cons,List.not_mem_nil,or_false] at m
        rcases m with rfl|rfl|rfl|rfl|rfl<;>assumption
    · rw [List.flatMap_append,←List.cons_append,List.nodup_append]
      refine⟨a4,by rw [List.flatMap_singleton];exact nd,fun b hb c hc z=>?_⟩
      rw [List.flatMap_singleton] at hc;rw [←z] at hc;exact oldm b hb (nn b hc)
  · rcases List.mem_cons.mp h with h|h
    · rw [h];exact .inl List.mem_cons_self
    · rw [List.flatMap_append,List.mem_append,List.flatMap_singleton] at h
      exact h.imp (List.mem_cons_of_mem _) (nn b)
def zgz:Sp:=fun vs H Q _=>∃ a dx,vs=[.ref a]∧H a=some (.ins LamW.C dx [])∧∀ l1 l2 l3 l4 l5 H',[a,l1,l2,l3,l4,l5].Nodup→(∀ l∈[l1,l2,l3,l4,l5],H l=none∧H' l=some (.lst []))→(∀ b u,b≠a→H b=some u→H' b=some u)→H' a=some (obO (some dx) [.ref l1,.ref l2,.ref l3,.ref l4,.ref l5,.non])→Q .non H'
def tDesk:TE:=fun _ H Q=>∀ dx a l1 l2 l3 l4 l5 H',[a,l1,l2,l3,l4,l5].Nodup→(∀ l∈[a,l1,l2,l3,l4,l5],H l=none)→(∀ l∈[l1,l2,l3,l4,l5],H' l=some (.lst []))→(∀ b u,H b=some u→H' b=some u)→H' a=some (obO (some dx) [.ref l1,.ref l2,.ref l3,.ref l4,.ref l5,.non])→Q (.ref a) H'
theorem zeA {f:Addr} {fd:FuncData} {ps:List Str} {E:XK} (M:Mk X.K LamW.C f) (F:FnOk X.prog X.w X.K X.mg X.base (CXR X.prog X.w) k f fd ps zgz) (hr:Room (k+1) X.A) (hg:Gl X x) (hm:X.mg x=some (.ref LamW.C)) (hb:Binds X.K fd ps []) (hx:Passes (CXR X.prog X.w) X E) (hdb:(x==("__debug__" : Str))=false:=by decide):PE X (.Call (.Name x p) [] [] pos) tDesk:=
  PE.imp (zig M F hr hg hm hb .nil hx hdb) fun σ H Q q=>by
    intro a dx ha hdx nd;refine⟨a,dx,rfl,zh,fun l1 l2 l3 l4 l5 H' nd' hl hk ht=>⟨rfl,q dx a l1 l2 l3 l4 l5 H' nd' (fun l m=>?_) (fun l m=>(hl l m).2) (fun b u e=>?_) ht⟩⟩
    · rcases List.mem_cons.mp m with rfl|m
      · exact ha
      · exact(ja (ja (hl l m).1).2).2
    · have h1:=zG e ha
      exact hk b u h1 (by rw [zd h1,zd (zG e hdx)];exact e)
def zaR (i:Nat):TS3:=fun A ρ=>∀ a dx p l1 l2 l3 l5 dx' p' m1 m2 m3 m5,A.nx (ρ.set i (some (.lo a [newD dx p l1 l2 l3 l5,newD dx' p' m1 m2 m3 m5])))
theorem znX {e':Expr} {pos':Pos} (hN:X.N.Nodup) (hi:X.N[i]?=some y) (hy:Loc X.env.scope y) (he:PE X e tDesk) (he':PE X e' tDesk) (hs:swapsWith (.List [e,e'] p) (some (.Name y pos')) pos.line X.env=pure false:=by rfl) (hs1:starEach [e,e'] X.env=(false,eval e X.env)::starEach [e'] X.env:=by rfl) (hs2:starEach [e'] X.env=(false,eval e' X.env)::starEach [] X.env:=by rfl)
    (hf:X.fn y=true∨X.env.scope.names.lookup y=some .local:=by first|exact .inl rfl|exact .inr rfl|assumption):PS3 X H0 (.Assign [.Name y pos'] (.List [e,e'] p) pos) (zaR i):=PS.imp (Zt hN hi hy (jT (zR he (zR he' zQ hs2) hs1)) hs hf) fun B σ H=>el7 fun G0 A ρ G F q L=>by
  intro dx x1 l1 l2 l3 l4 l5 H1 nd hn hl hk ht dx' x2 m1 m2 m3 m4 m5 H2 nd' hn' hl' hk' ht';refine⟨show 2≤sizeLine by decide,fun a ha=>?_⟩
  have up1:∀ l∈[x1,l1,l2,l3,l4,l5],∃ u,H1 l=some u:=fun l m=>by
    rcases List.mem_cons.mp m with rfl|m
    · exact⟨_,ht⟩
    · exact⟨_,hl l m⟩
  have up2:∀ l∈[x2,m1,m2,m3,m4,m5],∃ u,H2 l=some u:=fun l m=>by
    rcases List.mem_cons.mp m with rfl|m
    · exact⟨_,ht'⟩
    · exact⟨_,hl' l m⟩
  have ap:∀ l∈[x1,l1,l2,l3,l4,l5],l∉[x2,m1,m2,m3,m4,m5]:=fun l m m'=>by
    obtain⟨u,e⟩:=up1 l m;rw [hn' l m'] at e;cases e
  have h2none:∀ l∈[x2,m1,m2,m3,m4,m5],H l=none:=fun l m=>by
    cases e:H l with
    | none=>rfl
    | some u=>have:=hk l u e;rw [hn' l m] at this;cases this
  have na1:∀ l∈[x1,l1,l2,l3,l4,l5],l≠a:=fun l m z=>by
    obtain⟨u,e⟩:=up1 l m;have:=hk' l u e;rw [z,ha] at this;cases this
  have na2:∀ l∈[x2,m1,m2,m3,m4,m5],l≠a:=fun l m z=>by
    obtain⟨u,e⟩:=up2 l m;rw [z,ha] at e;cases e
  have haH:H a=none:=by
    cases e:H a with
    | none=>rfl
    | some u=>have:=hk' a u (hk a u e);rw [ha] at this;cases this
  have i4:l4∈[x1,l1,l2,l3,l4,l5]:=by simp
  have j4:m4∈[x2,m1,m2,m3,m4,m5]:=by simp
  have n44:m4≠l4:=fun z=>ap l4 i4 (z ▸ j4)
  have g:Gr G H (upd (upd G l4 (.lst [])) m4 (.lst [])) (upd H2 a (.lst [.ref x1,.ref x2])):=by
    have gl:G l4=none:=F.sub.free (hn l4 i4);have gm:G m4=none:=F.sub.free (h2none m4 j4);refine⟨(z5 gl _).trans (z5 (by rw [zd n44];exact gm) _),Same.x fun b u e=>?_,⟨fun b u e=>?_,fun b f e=>?_⟩,fun b u e=>?_⟩
    · rw [zd (zG e haH)];exact hk' b u (hk b u e)
    · by_cases hb:b=m4
      · subst hb;rw [zh] at e;rw [zd (na2 b j4),hl' b (by simp)];exact e
      · rw [zd hb] at e
        by_cases hb:b=l4
        · subst hb;rw [zh] at e;rw [zd (na1 b i4),hk' b _ (hl b (by simp))];exact e
        · rw [zd hb] at e
          have e':=F.sub.s b u e;rw [zd (zG e' haH)];exact hk' b u (hk b u e')
    · by_cases hb:b=m4
      · subst hb;rw [zh] at e;cases e
      · rw [zd hb] at e
        by_cases hb:b=l4
        · subst hb;rw [zh] at e;cases e
        · rw [zd hb] at e;exact F.sub.cl b f e
    · by_cases hb:b=m4
      · subst hb;exact .inr (.inl (h2none b j4))
      · rw [zd hb] at e
        by_cases hb:b=l4
        · subst hb;exact .inr (.inl (hn b i4))
        · rw [zd hb] at e;exact .inl e
  have sub1:∀ l∈[x1,l1,l2,l3,l5],l∈[x1,l1,l2,l3,l4,l5]∧l≠l4:=by
    intro l m;simp only [List.nodup_cons,List.mem_cons,List.not_mem_nil,or_false,not_or] at nd m
    rcases m with rfl|rfl|rfl|rfl|rfl<;>simp<;>first|exact nd.1.2.2.2.1|exact nd.2.1.2.2.1|exact nd.2.2.1.2.1|exact nd.2.2.2.1.1|exact Ne.symm nd.2.2.2.2.1
  have sub2:∀ l∈[x2,m1,m2,m3,m5],l∈[x2,m1,m2,m3,m4,m5]∧l≠m4:=by
    intro l m;simp only [List.nodup_cons,List.mem_cons,List.not_mem_nil,or_false,not_or] at nd' m
    rcases m with rfl|rfl|rfl|rfl|rfl<;>simp<;>first|exact nd'.1.2.2.2.1|exact nd'.2.1.2.2.1|exact nd'.2.2.1.2.1|exact nd'.2.2.2.1.1|exact Ne.symm nd'.2.2.2.2.1
  have dr:∀ {y a1 a2 a3 a4 a5:Addr},[y,a1,a2,a3,a4,a5].Nodup→[y,a1,a2,a3,a5].Nodup:=fun {y a1 a2 a3 a4 a5} h=>h.sublist (by exact .cons₂ _ (.cons₂ _ (.cons₂ _ (.cons₂ _ (.cons _ (.cons₂ _ .slnil))))))
  have o1:ObAt X.K (upd (upd G l4 (.lst [])) m4 (.lst [])) (upd H2 a (.lst [.ref x1,.ref x2])) (newD dx x1 l1 l2 l3 l5):=by
    refine zeM (l4:=l4) ?_ (dr nd) (fun l m=>?_) (fun l m=>?_) ?_
    · rw [zd (na1 x1 (by simp))];exact hk' _ _ ht
    · obtain⟨k1,k2⟩:=sub1 l (List.mem_cons_of_mem _ m)
      rw [zd (na1 l k1)];refine hk' _ _ (hl l ?_);simp only [List.mem_cons,List.not_mem_nil,or_false] at m ⊢
      rcases m with h|h|h|h<;>simp [h]
    · obtain⟨k1,k2⟩:=sub1 l m
      rw [zd (fun z:l=m4=>ap l k1 (z ▸ j4)),zd k2]
      exact F.sub.free (hn l k1)
    · rw [zd (Ne.symm n44),zh]
  have o2:ObAt X.K (upd (upd G l4 (.lst [])) m4 (.lst [])) (upd H2 a (.lst [.ref x1,.ref x2])) (newD dx' x2 m1 m2 m3 m5):=by
    refine zeM (l4:=m4) ?_ (dr nd') (fun l m=>?_) (fun l m=>?_) ?_
    · rw [zd (na2 x2 (by simp))];exact ht'
    · obtain⟨k1,k2⟩:=sub2 l (List.mem_cons_of_mem _ m)
      rw [zd (na2 l k1)];refine hl' l ?_;simp only [List.mem_cons,List.not_mem_nil,or_false] at m ⊢
      rcases m with h|h|h|h<;>simp [h]
    · obtain⟨k1,k2⟩:=sub2 l m
      rw [zd k2,zd (fun z:l=l4=>ap l4 i4 (z ▸ k1))]
      exact F.sub.free (h2none l k1)
    · rw [zh]
  have all:∀ b,b∈a::[newD dx x1 l1 l2 l3 l5,newD dx' x2 m1 m2 m3 m5].flatMap Ob.as→H b=none:=fun b h=>by
    rcases List.mem_cons.mp h with h|h
    · rw [h];exact haH
    · rw [show [newD dx x1 l1 l2 l3 l5,newD dx' x2 m1 m2 m3 m5].flatMap Ob.as=[x1,l1,l2,l3,l5]++[x2,m1,m2,m3,m5] from rfl] at h
      rcases List.mem_append.mp h with h|h
      · exact hn b (sub1 b h).1
      · exact h2none b (sub2 b h).1
  refine L.nx _ _ _ _ ((F.gr g).putN (.lo zh (F.sub.free haH |> fun z=>?_) (fun o ho=>?_) ?_) (fun b h=>F.keep.free (all b h)) fun b j c' v' h e e' h'=>?_) (q a dx x1 l1 l2 l3 l5 dx' x2 m1 m2 m3 m5)
  · rw [zd (Ne.symm (na2 m4 j4)),zd (Ne.symm (na1 l4 i4))];exact z
  · rcases List.mem_cons.mp ho with rfl|ho
    · exact o1
    · rw [List.mem_singleton.mp ho];exact o2
  · rw [show [newD dx x1 l1 l2 l3 l5,newD dx' x2 m1 m2 m3 m5].flatMap Ob.as=[x1,l1,l2,l3,l5]++[x2,m1,m2,m3,m5] from rfl,List.nodup_cons,List.nodup_append]
    refine⟨fun h=>?_,dr nd,dr nd',fun b hb c hc z=>ap b (sub1 b hb).1 (z ▸ (sub2 c hc).1)⟩
    rcases List.mem_append.mp h with h|h
    · exact na1 a (sub1 a h).1 rfl
    · exact na2 a (sub2 a h).1 rfl
  · obtain⟨⟨u,k1,_⟩,_⟩:=(F.vw e e').mn h'
    rw [all b h] at k1;cases k1
end
end L3
namespace L2
open PySem PySem.Spec PyProof.Rows
theorem Z8:∀ {ys:List Str} {its:List Value},Vals (ys.map V.str) its→StrsAre its ys
  | [],_,r=>by cases r;exact .nil
  | y :: ys, _, r => by
    rw [List.map_cons] at r;cases r with
    | cons h t=>
      obtain⟨tk,rfl⟩:=h;exact .cons y tk (Z8 t)
theorem zga:∀ l:List (Str×Tok),Vals ((l.map (·.1)).map V.str) (strValues l)
  | []=>.nil
  | p::r=>.cons ⟨p.2,rfl⟩ (zga r)
theorem zcH (k:Str):∀ {vs:List Value} {ys:List Str},StrsAre vs ys→∀ (j:Nat) (h1:j<vs.length) (h2:j<ys.length),isStrOf k vs[j]=(ys[j]==k)
  | _,_,.cons n t _,0,_,_=>rfl
  | _,_,.cons n t r,j+1,h1,h2=>zcH k r j (Nat.lt_of_succ_lt_succ h1) (Nat.lt_of_succ_lt_succ h2)
theorem zhc {k:Str}:∀ {ns:List Str} {j:Nat},j<ns.idxOf k→∀ (h2:j<ns.length),(ns[j]==k)=false
  | n :: r, 0, h, _ => by
    by_cases e:n=k
    · subst e;simp at h
    · simpa using e
  | n :: r, j + 1, h, h2 => by
    rw [List.idxOf_cons] at h;cases e:(n==k) with
    | true=>rw [e,cond_true] at h;omega
    | false=>rw [e,cond_false] at h;exact zhc (j:=j) (by omega) (Nat.lt_of_succ_lt_succ h2)
section
variable {X:Cx}
def rSplit:V→List V→Hp→VK→Prop:=fun x vs H Q=>∃ a b,x=.str a∧vs=[.str b]∧(b.length==0)=false∧a.length≤sizeLine∧(Txt.split a b).length≤sizeLine∧∀ p,H p=none→Q (.ref p) (upd H p (.lst ((Txt.split a b).map V.str)))
theorem zkN:MtM X "str.split" rSplit:=by
  intro pins s σ H x vs v us Q I rx rv h;obtain⟨a,b,rfl,rfl,hb,ha,hn,q⟩:=h;obtain⟨t,rfl⟩:=rx;obtain⟨u,rfl,t2,rfl⟩:=rv.one;have fin:∀ (l:List (Str×Tok)) (tk:Nat),l.map (·.1)=Txt.split a b→(Txt.split a b).length≤sizeLine→EP X pins σ Q (.ref s.heap.objs.size) { s with heap:=s.heap.push { cls:=.type "list", data:=.seq (strValues l).toArray },toks:=tk }:=fun l tk e hz=>by
    refine⟨.ref s.heap.objs.size,_,I.laid (t':=tk) (o:=.lst ((Txt.split a b).map V.str)) (fun b ob q=>Heap.get?_push_of_some _ q) (Nat.le_refl _) ⟨by rw [List.length_map];exact hz,strValues l,0,by rw [←e];exact zga l,Heap.get?_push_size _ rfl⟩,rfl,q _ (I.hok.fresh (Nat.le_refl _))⟩
  cases h1:(decide (a.length<b.length)||decide (Builtin.Str.strKind a<Builtin.Str.strKind b))
  · cases hf:(Builtin.Str.occurrences a b 0 a.length (a.length+1)).isEmpty
    · have e:Txt.split a b=Builtin.Str.partsBetween a (Builtin.Str.occurrences a b 0 a.length (a.length+1)) b.length:=(if_neg (ne_true_of_eq_false h1)).trans (if_neg (ne_true_of_eq_false hf))
      refine call_meets F.slot_str_split (typeIs_str _ _ _) F.entry_str_split (F.args_str_split_2 _ _) (meets_str_split_sep a b t t2 h1 hb hf ha (by rw [←e];exact hn)) ?_
      show wants _ _ _ { s with toks:=_,heap:=s.heap.push { cls:=.type "list", data:=.seq (strsFrom s.toks (Builtin.Str.partsBetween a (Builtin.Str.occurrences a b 0 a.length (a.length+1)) b.length)).toArray } }
      rw [strsFrom_eq];exact fin (numbered s.toks _) _ ((numbered_texts _ _).trans e.symm) hn
    · have e:Txt.split a b=[a]:=(if_neg (ne_true_of_eq_false h1)).trans (if_pos hf)
      exact call_meets F.slot_str_split (typeIs_str _ _ _) F.entry_str_split (F.args_str_split_2 _ _) (meets_str_split_not_found a b t t2 h1 hb hf) (fin [(a,t)] s.toks e.symm (by rw [e];show 1≤sizeLine;decide))
  · have e:Txt.split a b=[a]:=if_pos h1
    exact call_meets F.slot_str_split (typeIs_str _ _ _) F.entry_str_split (F.args_str_split_2 _ _) (meets_str_split_cannot_occur a b t t2 h1) (fin [(a,t)] s.toks e.symm (by rw [e];show 1≤sizeLine;decide))
def zn6 (K:PySem.W.Frag):V→List V→Hp→VK→Prop:=fun x vs H Q=>∃ (a:Str) (l:Addr) (ys:List Str),x=.str a∧vs=[.ref l]∧SqL K H l (ys.map V.str)∧a.length≤16∧(ys.map (·.length)).sum+ys.length≤1048576∧Q (.str (Txt.join a ys)) H
theorem zlG:MtM X "str.join" (zn6 X.K):=by
  intro pins s σ H x vs v us Q I rx rv h;obtain⟨a,l,ys,rfl,rfl,hq,ha,hw,q⟩:=h;obtain⟨t,rfl⟩:=rx;obtain⟨u,rfl,ru⟩:=rv.one;cases(show u=Value.ref l from ru)
  obtain⟨its,r,pl,_⟩:=I.list hq;exact join_listW pl.isList (Z8 r) ha hw fun t' k=>⟨.str _,H,I.tok _,⟨_,rfl⟩,q⟩
theorem znP:OpR X (binaryOp .Mult) (fun x y H Q=>∃ a n,x=.str a∧y=.int n∧a.length≤1∧-1000≤n∧n≤1000∧Q (.str (Txt.mul a n)) H):=by
  intro pins s σ H x y v u Q I rx ry h;obtain⟨a,n,rfl,rfl,ha,h1,h2,q⟩:=h;obtain⟨t,rfl⟩:=rx;obtain⟨t',rfl⟩:=ry;exact SB.mul (mulOk_of 1 1000 ha h2 (by omega) (by decide) (by decide)) fun t' k=>⟨.str _,H,I.tok _,⟨_,rfl⟩,q⟩
def rInL (K:PySem.W.Frag) (neg:Bool):R2:=fun x y H Q=>∃ (k:Str) (p:Addr) (ys:List Str),x=.str k∧y=.ref p∧SqL K H p (ys.map V.str)∧Q (.bl (if neg then !(ys.any (· == k)) else ys.any (· == k))) H
theorem znf:OpR X (compareOp .In) (rInL X.K false):=by
  intro pins s σ H x y v u Q I rx ry h;obtain⟨k,p,ys,rfl,rfl,hq,q⟩:=h;obtain⟨t,rfl⟩:=rx;cases ry;obtain⟨its,r,pl,_⟩:=I.list hq;exact in_list_strs pl.isList (Z8 r) ⟨.bl _,H,I,rfl,q⟩
theorem zoa:OpR X (compareOp .NotIn) (rInL X.K true):=by
  intro pins s σ H x y v u Q I rx ry h;obtain⟨k,p,ys,rfl,rfl,hq,q⟩:=h;obtain⟨t,rfl⟩:=rx;cases ry;obtain⟨its,r,pl,_⟩:=I.list hq;exact notin_list_strs pl.isList (Z8 r) ⟨.bl _,H,I,rfl,q⟩
def zjP (K:PySem.W.Frag):V→List V→Hp→VK→Prop:=fun x vs H Q=>∃ (p:Addr) (ns:List Str) (n:Str),x=.ref p∧vs=[.str n]∧SqL K H p (ns.map V.str)∧n∈ns∧Q (.int (ns.idxOf n:Nat)) H
theorem zhW:MtM X "list.index" (zjP X.K):=by
  intro pins s σ H x vs v us Q I rx rv h;obtain⟨p,ns,n,rfl,rfl,hq,hk,q⟩:=h;cases rx;obtain⟨u,rfl,t,rfl⟩:=rv.one;obtain⟨its,r,pl,hz⟩:=I.list hq;have hi:=Z8 r;obtain⟨⟨cls,dd,data,sl⟩,ho,hc,n',hd⟩:=pl.isList;simp only at hc hd;subst hc hd;have hlen:its.length=ns.length:=by rw [←r.length,List.length_map]
  have hj:ns.idxOf n<ns.length:=List.idxOf_lt_length_iff.mpr hk;have hn:=Jt;rw [List.length_map] at hz;refine call_meets PySem.F.slot_list_index ⟨_,ho,rfl⟩ PySem.F.entry_list_index (PySem.F.args_list_index_2 _ _)
    (SeqAt.list_indexAt p its.toArray n' dd sl (.str n t) (isStrOf n) (ns.idxOf n) (by simpa [hlen] using hj) (by omega) ?_ ?_) ⟨ho,fun y hy=>(eq_isStrOf n t hi y (by simpa using hy)).at _ _,⟨.int _,H,I.tok _,⟨_,rfl⟩,q⟩⟩
  · show isStrOf n its[ns.idxOf n]=true
    rw [zcH n hi _ (by omega) hj]
    simpa using List.getElem_idxOf hj
  · intro j hjs hlt
    show isStrOf n its[j]=false
    rw [zcH n hi j (by simpa using hjs) (by omega)]
    exact zhc hlt _
end
end L2
namespace L3
open PySem PySem.Spec PyProof.Rows L2
variable [LamW]
def jr:List D→Option (List Str)
  | []=>some []
  | .str i::r=>(jr r).map (i :: ·)
  | _::_=>none
theorem jP (ns:List Str):jr (ns.map .str)=some ns:=by
  induction ns with
  | nil=>rfl
  | cons a r ih=>simp [jr,ih]
theorem zb1 {K:PySem.W.Frag} {G:Hp}:∀ {vs:List V} {ds:List D} {ns:List Str},RdVs K G vs ds→jr ds=some ns→vs=ns.map V.str
  | _,_,_,.nil,e=>by cases e;rfl
  | _, d :: ds, ns, .cons a b, e => by
    cases d with
    | str i=>
      have e':(jr ds).map (i :: ·)=some ns:=e;cases q:jr ds with
      | none=>rw [q] at e';cases e'
      | some ms=>
        rw [q] at e';cases e';rw [List.map_cons,zb1 b q,zW a]
    | _=>cases e
theorem zhx {K:PySem.W.Frag} {H0 G:Hp}:∀ ns:List Str,Rfs K H0 G true (ns.map V.str) (ns.map PyData.str)
  | []=>Rfs.nil
  | a::r=>Rfs.cons (f:=true) (.sc rfl (.str a)) (zhx r)
section
variable {X:Cx} {H0:Hp} {e o:Expr} {pos apos:Pos}
def spN (to te:TE3):TN3:=fun ρ Q=>to ρ fun c=>∃ f a,c=.sh f (.str a)∧te ρ fun c2=>∃ g b,c2=.sh g (.str b)∧(b.length==0)=false∧a.length≤sizeLine∧(Txt.split a b).length≤sizeLine∧Q true ((Txt.split a b).map .str)
theorem zms {to te:TE3} (ho:PE3 X H0 o to) (he:PE3 X H0 e te) (hb:attributeBase o "split" X.env (eval o X.env)=eval o X.env:=by rfl)
    (hf:((backTo pos (starEach [e] X.env)).all (fun x=>!x.1)&&(backToKw pos (keywordEach [] X.env)).all (fun x=>x.1.isSome)&&decide ([e].length+([]:List Keyword).length+(if([]:List Keyword).isEmpty then 0 else 1)<30))=true:=by rfl)
    (hl:(apos.endLine==pos.line)=true:=by rfl) (hs:starEach [e] X.env=(false,eval e X.env)::starEach [] X.env:=by rfl) (hp:(backTo pos (starEach [] X.env)).any (·.1)=false:=by rfl) :
    PN3 X H0 (.Call (.Attribute o "split" apos) [e] [] pos) (spN to te):=by
  refine⟨fun ρ Q Q' h q=>ho.mono ρ _ _ (fun c ⟨f,a,hc,q⟩=>⟨f,a,hc,he.mono ρ _ _ (fun c2 ⟨g,b,hb,z,z',z2,q⟩=>⟨g,b,hb,z,z',z2,h _ _ q⟩) q⟩) q,PE.imp (ZT PySem.F.plainAttrs_str PySem.F.slot_str_split PySem.F.type_str_split zkN ho.ok (zR he.ok zQ hs) hb hf hl hs hp) fun σ H Q=>el5 fun G0 ρ G F q=>⟨G0,ρ,G,F,ho.mono ρ _ _ (fun c hc0 v G1 H1 g1 w=>?_) q⟩⟩
  obtain⟨f,a,rfl,q⟩:=hc0;have r:=(zi w).rd;cases r;refine⟨rfl,G0,ρ,G1,F.gr g1,he.mono ρ _ _ (fun c2 hc0 v2 G2 H2 g2 w2=>?_) q⟩
  obtain⟨g,b,rfl,z,z',z2,q⟩:=hc0;have r:=(zi w2).rd;cases r;exact⟨a,b,rfl,rfl,z,z',z2,fun p hpn=>q p _ G2 H2 (g1.trans g2) hpn (zhx _)⟩
def jn3 (to te:TE3):TE3:=fun ρ Q=>to ρ fun c=>∃ f a,c=.sh f (.str a)∧te ρ fun c2=>∃ ds ys,c2.dat=true∧c2.d=.list ds∧jr ds=some ys∧a.length≤16∧(ys.map (·.length)).sum+ys.length≤1048576∧Q (.sh true (.str (Txt.join a ys)))
theorem j6 {to te:TE3} (ho:PE3 X H0 o to) (he:PE3 X H0 e te) (hb:attributeBase o "join" X.env (eval o X.env)=eval o X.env:=by rfl)
    (hf:((backTo pos (starEach [e] X.env)).all (fun x=>!x.1)&&(backToKw pos (keywordEach [] X.env)).all (fun x=>x.1.isSome)&&decide ([e].length+([]:List Keyword).length+(if([]:List Keyword).isEmpty then 0 else 1)<30))=true:=by rfl)
    (hl:(apos.endLine==pos.line)=true:=by rfl) (hs:starEach [e] X.env=(false,eval e X.env)::starEach [] X.env:=by rfl) (hp:(backTo pos (starEach [] X.env)).any (·.1)=false:=by rfl) :
    PE3 X H0 (.Call (.Attribute o "join" apos) [e] [] pos) (jn3 to te):=by
  refine⟨fun ρ Q Q' h q=>ho.mono ρ _ _ (fun c ⟨f,a,hc,q⟩=>⟨f,a,hc,he.mono ρ _ _ (fun c2 ⟨ds,ys,a1,a2,a3,a4,a5,q⟩=>⟨ds,ys,a1,a2,a3,a4,a5,h _ q⟩) q⟩) q,PE.imp (ZT PySem.F.plainAttrs_str PySem.F.slot_str_join PySem.F.type_str_join zlG ho.ok (zR he.ok zQ hs) hb hf hl hs hp) fun σ H Q=>el5 fun G0 ρ G F q=>⟨G0,ρ,G,F,ho.mono ρ _ _ (fun c hc0 v G1 H1 g1 w=>?_) q⟩⟩
  obtain⟨f,a,rfl,q⟩:=hc0;have r:=(zi w).rd;cases r;refine⟨rfl,G0,ρ,G1,F.gr g1,he.mono ρ _ _ (fun c2 hc0 v2 G2 H2 g2 w2=>?_) q⟩
  obtain⟨ds,ys,a1,a2,a3,a4,a5,q⟩:=hc0;obtain⟨l,us,rfl,hq,rs⟩:=Jn w2 g2.sub a1 a2;have hvs:=zb1 rs.rd a3;subst hvs;exact⟨a,l,ys,rfl,rfl,hq,a4,a5,q _ G2 H2 (g1.trans g2) (.sh (.sc rfl (.str _)))⟩
def mulS3:R3:=fun a b Q=>match a,b with
  | .sh _ (.str x),.sh _ (.int n)=>x.length≤1∧-1000≤n∧n≤1000∧Q true (.str (Txt.mul x n))
  | _,_=>False
theorem zd8:OpOk X (binaryOp .Mult) mulS3:=by
  refine⟨fun a b Q Q' h q=>?_,fun H0=>OpR.imp znP fun x y H Q=>el3 fun G a b s wa wb q=>?_⟩
  · unfold mulS3 at *;split at q
    · obtain⟨a,b,c,q⟩:=q;exact⟨a,b,c,h _ _ q⟩
    · exact q
  · unfold mulS3 at q;split at q
    · cases zW (zi wa).rd;cases zy (zi wb).rd
      obtain⟨a,b,c,q⟩:=q;exact⟨_,_,rfl,rfl,a,b,c,q _ G H (Gr.refl s) (.sc rfl (.str _))⟩
    · exact q.elim
def inL3 (neg:Bool):R3:=fun a b Q=>∃ f k ds ys,a=.sh f (.str k)∧b.dat=true∧b.d=.list ds∧jr ds=some ys∧Q true (.bool (if neg then !(ys.any (· == k)) else ys.any (· == k)))
theorem zht {op:CmpOp} {neg:Bool} (h:OpR X (compareOp op) (rInL X.K neg)):OpOk X (compareOp op) (inL3 neg):=by
  refine⟨fun a b Q Q' h ⟨f,k,ds,ys,a1,a2,a3,a4,q⟩=>⟨f,k,ds,ys,a1,a2,a3,a4,h _ _ q⟩,fun H0=>OpR.imp h fun x y H Q=>el3 fun G a b s wa wb q=>?_⟩
  obtain⟨f,k,ds,ys,rfl,a2,a3,a4,q⟩:=q;cases zW (zi wa).rd;obtain⟨l,us,rfl,hq,rs⟩:=Jn wb s a2 a3;have hvs:=zb1 rs.rd a4;subst hvs;exact⟨k,l,ys,rfl,rfl,hq,q _ G H (Gr.refl s) (.sc rfl (.bl _))⟩
theorem zhU:OpOk X (compareOp .In) (inL3 false):=zht znf
theorem zcC:OpOk X (compareOp .NotIn) (inL3 true):=zht zoa
def zbf (to te:TE3):TE3:=fun ρ Q=>to ρ fun c=>∃ ds ns,c.dat=true∧c.d=.list ds∧jr ds=some ns∧te ρ fun c2=>∃ g n,c2=.sh g (.str n)∧n∈ns∧Q (.sh true (.int (ns.idxOf n:Nat)))
theorem ziy {to te:TE3} (ho:PE3 X H0 o to) (he:PE3 X H0 e te) (hb:attributeBase o "index" X.env (eval o X.env)=eval o X.env:=by rfl)
    (hf:((backTo pos (starEach [e] X.env)).all (fun x=>!x.1)&&(backToKw pos (keywordEach [] X.env)).all (fun x=>x.1.isSome)&&decide ([e].length+([]:List Keyword).length+(if([]:List Keyword).isEmpty then 0 else 1)<30))=true:=by rfl)
    (hl:(apos.endLine==pos.line)=true:=by rfl) (hs:starEach [e] X.env=(false,eval e X.env)::starEach [] X.env:=by rfl) (hp:(backTo pos (starEach [] X.env)).any (·.1)=false:=by rfl) :
    PE3 X H0 (.Call (.Attribute o "index" apos) [e] [] pos) (zbf to te):=by
  refine⟨fun ρ Q Q' h q=>ho.mono ρ _ _ (fun c ⟨ds,ns,a,b,d,q⟩=>⟨ds,ns,a,b,d,he.mono ρ _ _ (fun c2 ⟨g,n,x,y,q⟩=>⟨g,n,x,y,h _ q⟩) q⟩) q,PE.imp (ZT PySem.F.plainAttrs_list PySem.F.slot_list_index PySem.F.type_list_index zhW ho.ok (zR he.ok zQ hs) hb hf hl hs hp) fun σ H Q=>el5 fun G0 ρ G F q=>⟨G0,ρ,G,F,ho.mono ρ _ _ (fun c hc0 v G1 H1 g1 w=>?_) q⟩⟩
  obtain⟨ds,ns,hd,hc,hu,q⟩:=hc0;obtain⟨a,vs,rfl,hq,rs⟩:=Jn w g1.sub hd hc;refine⟨.inl ⟨rfl,_,hq⟩,G0,ρ,G1,F.gr g1,he.mono ρ _ _ (fun c2 hc1 v2 G2 H2 g2 w2=>?_) q⟩
  obtain⟨g,n,rfl,hn,q⟩:=hc1;have r:=zW (zi w2).rd;subst r;have hvs:=zb1 rs.rd hu;subst hvs;exact⟨a,ns,n,rfl,rfl,g2.h.seq hq,hn,q _ G2 H2 (g1.trans g2) (.sh (.sc rfl (.int _)))⟩
end
end L3
namespace L2
open PySem PySem.Spec PyProof.Rows
section
variable {X:Cx}
theorem zm4:fillsNumberSlot (Value.type "tuple") "mul" = pure false:=by rfl
theorem zm3:seqRepeat? (Value.type "tuple")=pure (some (Value.builtin "tuple.__mul__")):=by rfl
theorem zjA {a:Int} {t:Tok} {l:Addr} {o:Obj} {xs:Array Value} {m:Nat} (hd:o.data=.seq xs m):Meets (Builtin.«int.__rmul__» { pos:=[Value.int a t,Value.ref l] }) fun _ R s=>s.heap.get? l=some o∧R (.ok (.ret .notImplemented)) s:=by
  intro prog w A R s h;obtain⟨ho,q⟩:=h;unfold Builtin.«int.__rmul__» Builtin.Int.intBinary slotArgs;simp only [List.isEmpty_nil,Bool.not_true,Bool.false_eq_true,if_false,List.length_cons,List.length_nil,Nat.zero_add,bne_self_eq_false];refine wpAny_bind (wpAny_pure ?_);dsimp only;refine wpAny_bind (wpAny_pure ?_);refine wpAny_bind (wpAny_bind (wpAny_load ho ?_));rw [hd];refine wpAny_pure ?_;dsimp only
  exact wpAny_bind (wpAny_rule (wpAny_pure q))
theorem zh2 {k:Int} {t:Tok} {l:Addr} {o:Obj} {xs:Array Value} {m:Nat} (hc:o.cls=.type "tuple") (hd:o.data=.seq xs m) (h1:1≤k) (h2:k≤1000) (hne:xs.isEmpty=false) (hz:(xs.size:Int)*k≤1000000):Meets (Builtin.«tuple.__mul__» { pos:=[Value.ref l,Value.int k t] }) fun _ R s=>s.heap.get? l=some o∧(k=1→R (.ok (.ret (.ref l))) s)∧(k≠1→R (.ok (.ret (.ref s.heap.objs.size))) { s with heap:=s.heap.push { cls:=.type "tuple", data:=.seq (List.foldl (fun x1 x2=>x1++x2) #[] (List.replicate k.toNat xs)) } }):=by
  intro prog w A R s h;obtain⟨ho,q1,q2⟩:=h;unfold Builtin.«tuple.__mul__»;refine wpAny_bind (m:=asIndex (Value.int k t)) ?_;refine wpAny_bind (m:=asInt? (Value.int k t)) (wpAny_pure (wpAny_pure ?_));dsimp only;rw [if_neg (by simp;omega)]
  refine wpAny_bind ?_
  refine wpAny_bind ?_
  refine wpAny_bind (wpAny_load ho ?_)
  rw [hd];refine wpAny_pure (wpAny_pure ?_)
  by_cases hk:k=1
  · rw [if_pos (by simp [hk])]
    refine wpAny_bind (wpAny_bind (wpAny_typeOf ⟨o,ho,hc⟩ (wpAny_pure ?_)))
    rw [if_pos (by rfl)]
    exact wpAny_bind (wpAny_rule (wpAny_pure (q1 hk)))
  · rw [if_neg (by simp [hne,hk])]
    have hsl:(1000000:Int)≤sizeLine:=by decide
    rw [if_neg (by simp only [hne,Bool.or_false,decide_eq_true_eq];omega),if_neg (by omega),if_neg (by unfold Builtin.Tuple.tupleTooMany;rw [decide_eq_true_eq];omega)]
    refine wpAny_bind (wpAny_newObj_type (wpAny_pure (q2 hk)) ?_)
    show(List.foldl (fun x1 x2=>x1++x2) #[] (List.replicate k.toNat xs)).size≤sizeLine
    have f0:=zdC xs.toList k.toNat [];rw [Array.toArray_toList] at f0;rw [f0,List.size_toArray,List.nil_append,zeD,Array.length_toList];have e:((k.toNat*xs.size:Nat):Int)=(xs.size:Int)*k:=by rw [Int.natCast_mul,Int.toNat_of_nonneg (by omega),Int.mul_comm]
    omega
def znb (K:PySem.W.Frag):R2:=fun x y H Q=>∃ a k xs,x=.ref a∧y=.int k∧SqT K H a xs∧xs≠[]∧1≤k∧k≤1000∧(xs.length:Int)*k≤1000000∧(k=1→Q (.ref a) H)∧(k≠1→∀ p,H p=none→Q (.ref p) (upd H p (.tup (List.replicate k.toNat xs).flatten)))
theorem zme:OpR X (binaryOp .Mult) (znb X.K):=by
  intro pins s σ H x y v u Q I rx ry h;obtain⟨a,k,xs,rfl,rfl,ha,hx,h1,h2,hz,q1,q2⟩:=h;cases rx;obtain⟨t,rfl⟩:=ry;obtain⟨its,r,p,_⟩:=I.tuple ha;have hlen:=r.length;obtain⟨o,ho,hc,n,hd⟩:=p;have hne:its.toArray.isEmpty=false:=by
    cases its with
    | nil=>exact absurd (r.nil_iff.mp rfl) hx
    | cons _ _=>rfl
  refine wpAny_binaryOp_repeat_ref (T:="tuple") (U:="int") (by decide) ⟨_,ho,hc⟩ (fun s'=>typeIs_int s' k t) zm4 F.fills_int_mul F.slot_int_rmul zm3 F.slot_int_index.lookup
    (call_meets F.slot_int_rmul (typeIs_int s k t) F.entry_int_rmul (F.args_int_rmul_2 _ _) (zjA hd)
      ⟨ho,rfl,⟨_,ho,hc⟩,call_meets F.slot_tuple_mul ⟨_,ho,hc⟩ F.entry_tuple_mul (F.args_tuple_mul_2 _ _) (zh2 hc hd h1 h2 hne (by rw [List.size_toArray,←hlen];exact hz)) ⟨ho,fun z=>⟨.ref a,H,I,rfl,q1 z⟩,fun z=>?_⟩⟩)
  have f0:=zdC its k.toNat [];rw [List.nil_append] at f0;rw [f0];refine⟨.ref s.heap.objs.size,_,I.laid (t':=s.toks) (o:=.tup (List.replicate k.toNat xs).flatten) (fun b ob q=>Heap.get?_push_of_some _ q) (Nat.le_refl _) ⟨?_,_,r.rep k.toNat,IsTup.new _ _⟩,rfl,q2 z _ (I.hok.fresh (Nat.le_refl _))⟩
  have hsl:(1000000:Int)≤sizeLine:=by decide
  have e:((k.toNat*xs.length:Nat):Int)=(xs.length:Int)*k:=by rw [Int.natCast_mul,Int.toNat_of_nonneg (by omega),Int.mul_comm]
  rw [zeD]
  omega
end
end L2
namespace L3
open PySem PySem.Spec PyProof.Rows L2
variable [LamW]
theorem Rfs.rep {K:PySem.W.Frag} {H0 G:Hp} {f:Bool} {vs:List V} {ds:List D} (r:Rfs K H0 G f vs ds) (n:Nat):Rfs K H0 G f (List.replicate n vs).flatten (List.replicate n ds).flatten:=by
  induction n with
  | zero=>exact Rfs.nil
  | succ n ih=>
    rw [List.replicate_succ,List.replicate_succ,List.flatten_cons,List.flatten_cons];have:=Rfs.append r ih;rwa [Bool.and_self] at this
section
variable {X:Cx} {H0:Hp} {pos:Pos}
def Z6 (ta tb:TE3):TE3:=fun ρ Q=>ta ρ fun a=>tb ρ fun b=>∃ ds k,a=.sh true (.tuple ds)∧b=.sh true (.int k)∧ds≠[]∧1≤k∧k≤1000∧(ds.length:Int)*k≤1000000∧Q (.sh true (.tuple (List.replicate k.toNat ds).flatten))
theorem zif {a b:Expr} {ta tb:TE3} (ha:PE3 X H0 a ta) (hb:PE3 X H0 b tb):PE3 X H0 (.BinOp a .Mult b pos) (Z6 ta tb):=by
  refine⟨fun ρ Q Q' h q=>ha.mono ρ _ _ (fun a=>hb.mono ρ _ _ fun b ⟨ds,k,e1,e2,z1,z2,z3,z4,q⟩=>⟨ds,k,e1,e2,z1,z2,z3,z4,h _ q⟩) q,PE.imp (zdg zme ha.ok hb.ok) fun σ H Q=>el5 fun G0 ρ G F q=>⟨G0,ρ,G,F,ha.mono ρ _ _ (fun a qa v1 G1 H1 g1 w1=>⟨G0,ρ,G1,F.gr g1,hb.mono ρ _ _ (fun b hyp v2 G2 H2 g2 w2=>?_) qa⟩) q⟩⟩
  obtain⟨ds,k,rfl,rfl,z1,z2,z3,z4,q⟩:=hyp;cases zy (zi w2).rd;obtain⟨l,xs,rfl,hq,rs⟩:=Zl (zi (w1.gr g2));refine⟨l,k,xs,rfl,rfl,g2.sub.tup hq,fun z=>z1 (by rw [←List.length_eq_zero_iff,←rs.length,z];rfl),z2,z3,by rw [rs.length];exact z4,fun z=>?_,fun z p hp=>?_⟩
  · subst z
    have e:(List.replicate (Int.toNat 1) ds).flatten=ds:=by simp
    rw [e] at q;exact q _ G2 H2 (g1.trans g2) (w1.gr g2)
  · have r:=rs.rep k.toNat
    refine q (.ref p) (upd G2 p (.tup (List.replicate k.toNat xs).flatten)) _ ((g1.trans g2).trans (Gr.put g2.sub hp)) ?_
    exact .sh ⟨.tup (.inl (.inl zh)) (rdvs_same (z5 (g2.sub.free hp) _) r.rd),fun hf=>.tup zh (rdns_mono (z5 (g2.sub.free hp) _) (fun _ _ _ z=>z) (r.nw hf))⟩
end
end L3
namespace L2
open PySem PySem.Spec PyProof.Rows
section
variable {X:Cx}
theorem zmy:zC X (.type "int") (fun xs H Q=>∃ b:Bool,xs=[.bl b]∧Q (.int (if b then 1 else 0)) H):=by
  intro pins s σ H xs us Q I r h;obtain⟨b,rfl,q⟩:=h;obtain⟨u,rfl,hu⟩:=jO r;cases hu;exact call_int_bool ⟨.int _,H,I.tok _,⟨_,rfl⟩,q⟩
end
end L2
namespace L3
open PySem PySem.Spec PyProof.Rows L2
variable [LamW]
section
variable {X:Cx}
def intB3:C3:=fun cs Q=>match cs with
  | [.sh _ (.bool b)]=>Q true (.int (if b then 1 else 0))
  | _=>False
theorem zkE:CallOk X (.type "int") intB3:=by
  refine⟨fun cs Q Q' h q=>?_,fun H0=>zC.imp zmy fun xs H Q=>el2 fun G cs s w q=>?_⟩
  · unfold intB3 at *;split at q
    · exact h _ _ q
    · exact q
  · unfold intB3 at q;split at q
    · obtain⟨v,rfl,w1⟩:=vws1 w
      have r:=(zi w1).rd;cases r;exact⟨_,rfl,q _ G H (Gr.refl s) (.sc rfl (.int _))⟩
    · exact q.elim
end
end L3
namespace L2
open PySem PySem.Spec PyProof.Rows
section
variable {prog:Program} {w:World} {A:Around} {E:Value→Shared→Prop} {s:Shared} {it t:Addr} {i:Nat} {items:Array Value} {Q:Value→Shared→Prop}
theorem zoi {x:Value} (hit:IsTupIter s.heap it t i) (ht:IsTup s.heap t items) (hx:items[i]?=some x)
    (hQ:∀ h',IsTupIter h' it t (i+1)→Heap.SameBut it s.heap h'→Q x { s with heap:=h' }):wpAny (model prog w) A (Builtin.SmallTypes.nextOf (.ref it)) Q E s:=by
  obtain⟨u,hu,c1,d1⟩:=id hit;obtain⟨z,hz,_,nz,dz⟩:=ht;unfold Builtin.SmallTypes.nextOf;refine wpAny_bind (wpAny_callSpecial?_slot (name:=Str.ofString "__next__") hit.typeIs slot_tupleiter_next (wpAny_call_entry slot_tupleiter_next hit.typeIs entry_tupleiter_next ?_ (args_tupleiter_next _)));show wpAny _ _ (field (.ref it) 0 >>= _) _ _ s;refine wpAny_bind (wpAny_field hu d1 (x:=.ref t) rfl ?_);show wpAny _ _ (if(Value.ref t==Value.none)=true then _ else _) _ _ s;rw [if_neg (show ¬((Value.ref t==Value.none)=true) from Bool.false_ne_true)]
  show wpAny _ _ (field (.ref it) 1 >>= _) _ _ s;refine wpAny_bind (wpAny_field hu d1 (x:=.int i 0) rfl ?_)
  show wpAny _ _ (seqItems? (.ref t) >>= _) _ _ s;refine wpAny_bind (wpAny_seqItems hz dz ?_);simp only [Int.toNat_natCast,hx]
  refine wpAny_bind (wpAny_setField hu d1 (by simp) (wpAny_pure ⟨x,rfl,wpAny_pure (hQ _ ⟨_,Heap.get?_update_self _ hu (Obj.isFreed_of_fields (Obj.data_mapFields d1 _)),(Obj.cls_mapFields ..).trans c1,?_⟩ (Heap.SameBut.update ..))⟩));rw [Obj.data_mapFields d1];simp [rawInt]
theorem zmJ (hh:A.handled=none) (hit:IsTupIter s.heap it t i) (ht:IsTup s.heap t items) (hx:items[i]?=none)
    (hE:∀ h' e,Heap.ExtBut it s.heap h'→(∃ o,h'.get? e=some o∧o.cls=.type "StopIteration")→E (.ref e) { s with heap:=h' }):wpAny (model prog w) A (Builtin.SmallTypes.nextOf (.ref it)) Q E s:=by
  obtain⟨u,hu,c1,d1⟩:=id hit;obtain⟨z,hz,_,nz,dz⟩:=ht;unfold Builtin.SmallTypes.nextOf;refine wpAny_bind (wpAny_callSpecial?_slot (name:=Str.ofString "__next__") hit.typeIs slot_tupleiter_next (wpAny_call_entry slot_tupleiter_next hit.typeIs entry_tupleiter_next ?_ (args_tupleiter_next _)));show wpAny _ _ (field (.ref it) 0 >>= _) _ _ s;refine wpAny_bind (wpAny_field hu d1 (x:=.ref t) rfl ?_);show wpAny _ _ (if(Value.ref t==Value.none)=true then _ else _) _ _ s;rw [if_neg (show ¬((Value.ref t==Value.none)=true) from Bool.false_ne_true)]
  show wpAny _ _ (field (.ref it) 1 >>= _) _ _ s;refine wpAny_bind (wpAny_field hu d1 (x:=.int i 0) rfl ?_)
  show wpAny _ _ (seqItems? (.ref t) >>= _) _ _ s;refine wpAny_bind (wpAny_seqItems hz dz ?_);simp only [Int.toNat_natCast,hx]
  refine wpAny_bind (wpAny_rule (wpAny_bind (wpAny_setField hu d1 (by simp) ?_)));show wpAny _ _ (newExc (.type "StopIteration") [] >>= _) _ _ _;refine wpAny_bind ?_
  simp only [newExc,newTuple];refine wpAny_bind (wpAny_newObj_type ?_ (by size_fits));refine wpAny_bind (m:=firstArgMember _ _) (wpAny_of_eq (a:=Value.none) (by first|rfl|(simp only [firstArgMember];rfl)) ?_)
  refine wpAny_newObj_type ?_ (by size_fits);simp only [raiseNew];refine wpAny_bind (wpAny_handled ?_);rw [hh]
  exact wpAny_bind (wpAny_pure (wpAny_throw (hE _ _ (((Heap.SameBut.update ..).extBut.push _).push _) ⟨_,Heap.get?_push_size _ rfl,rfl⟩)))
end
theorem zhu {h h':Heap} {a t:Addr} {i:Nat} (x:IsTupIter h a t i) (e:∀ o,h.get? a=some o→h'.get? a=some o):IsTupIter h' a t i:=let ⟨o,ho,r⟩:=x;⟨o,e o ho,r⟩
theorem zfx {h h':Heap} {a:Addr} {xs:Array Value} (x:IsTup h a xs) (e:∀ o,h.get? a=some o→h'.get? a=some o):IsTup h' a xs:=let ⟨o,ho,r⟩:=x;⟨o,e o ho,r⟩
theorem zgg {prog:Program} {w:World} {A:Around} (hh:A.handled=none) (it t:Addr) (hne:t≠it) (items:Array Value):Draws prog w A it [it,t] items.size (fun i v=>items[i]?=some v) (fun i h=>IsTupIter h it t i∧IsTup h t items) where
  live:=fun _ _ st=>let ⟨o,ho,_⟩:=st.1;⟨o,ho⟩
  frame:=fun _ _ _ st hk=>⟨zhu st.1 fun o e=>hk it (by simp) o e,zfx st.2 fun o e=>hk t (by simp) o e⟩
  item:=fun i s Q E hi st hQ=>by
    refine zoi st.1 st.2 (x:=items[i]) (by simp [hi]) fun h' hit' hs'=>?_
    exact hQ _ h' s.toks (by simp [hi]) ⟨hit',zfx st.2 fun o e=>(hs'.2 t hne).trans e⟩ hs'
  done:=fun s Q E st hE=>zmJ hh st.1 st.2 (by simp) hE
theorem zib (l:Addr) (o:Obj) (items:Array Value) (n:Nat) (hc:o.cls=.type "tuple") (hd:o.data=.seq items n) :
    Meets (Builtin.«enumerate.__new__» ⟨[.type "enumerate", .ref l],[]⟩) (fun _ R s=>s.heap.get? l=some o∧
      R (.ok (.ret (.ref (s.heap.push { cls:=.type "tuple_iterator", data:=.fields #[.ref l,.int 0 0] }).objs.size)))
        { s with heap:=(s.heap.push { cls:=.type "tuple_iterator", data:=.fields #[.ref l,.int 0 0] }).push { cls:=.type "enumerate", data:=.fields #[.none,.bool false,.ref s.heap.objs.size,rawInt 0,.none,.none] } }):=by
  obtain⟨c,dct,dt,sl⟩:=o;simp only at hc hd;subst hc hd;refine .of_wp fun prog w A R s h=>?_
  obtain⟨hp,g,d,tk,os⟩:=s;obtain⟨hl,h⟩:=h;have hsub:=sub_enumerate;have hL:IsTup (Shared.heap ⟨hp,g,d,tk,os⟩) l items:=⟨_,hl,rfl,n,rfl⟩
  wp_walk using AutoSeq1.wpAny_loadPart' hl
  refine wpAny_stack_any fun st=>wpAny_pure ?_
  split
  · rename_i c _ _ _ _ _
    cases(c==Value.type "enumerate")<;>(wp_walk using AutoSeq1.wpAny_loadPart' hl,iter_tuple hL;exact⟨_,rfl,h⟩)
  · wp_walk using AutoSeq1.wpAny_loadPart' hl,iter_tuple hL;exact⟨_,rfl,h⟩
theorem zjZ {prog:Program} {w:World} {A:Around} {E:Value→Shared→Prop} {s:Shared} {l:Addr} {items:Array Value} {Q:Value→Shared→Prop} (hL:IsTup s.heap l items)
    (h:∀ h',IsEnum h' (s.heap.objs.size+1) s.heap.objs.size 0 .none→IsTupIter h' s.heap.objs.size l 0→h'.objs.size=s.heap.objs.size+2→(∀ b o,s.heap.get? b=some o→h'.get? b=some o)→Q (.ref (s.heap.objs.size+1)) { s with heap:=h' }) :
    wpAny (model prog w) A (call (.type "enumerate") [.ref l]) Q E s:=by
  obtain⟨o,hl,hc,n,hd⟩:=hL;refine callType_new F.called_enumerate (by decide) (F.typeCall_enumerate_1 _) (F.newCall_enumerate_1 _) (fun obj=>F.args_object_init_2 obj _) F.entry_enumerate_new (zib l o items n hc hd) ⟨hl,?_⟩
  have hz:(s.heap.push { cls:=.type "tuple_iterator", data:=.fields #[.ref l,.int 0 0] }).objs.size=s.heap.objs.size+1:=Heap.size_push ..;show _∧_;rw [hz];have he:=Heap.get?_push_size (s.heap.push { cls:=.type "tuple_iterator", data:=.fields #[.ref l,.int 0 0] }) (o:={ cls:=.type "enumerate", data:=.fields #[.none,.bool false,.ref s.heap.objs.size,rawInt 0,.none,.none] }) rfl;rw [hz] at he;exact⟨⟨_,he,rfl⟩,h _ he ⟨_,Heap.get?_push_of_some _ (Heap.get?_push_size _ rfl),rfl,rfl⟩ (by rw [Heap.size_push,hz]) fun b o x=>Heap.get?_push_of_some _ (Heap.get?_push_of_some _ x)⟩
def Itet (K:PySem.W.Frag) (a:Addr):It:=
  ⟨fun i H=>∃ xs x,SqT K H a xs∧xs[i]?=some x,
   fun i H v H'=>∃ p x,H p=none∧v=.ref p∧H'=upd H p (.tup [.int i,x])∧∀ xs,SqT K H a xs→xs[i]?=some x,
   fun i H=>∃ xs,SqT K H a xs∧i=xs.length⟩
theorem ziI {P:Program} {w:World} {K:PySem.W.Frag} {elts:List Expr} {k:Nat} {pos:Pos} {e it l:Addr} (hei:e≠it) (hle:l≠e) (hli:l≠it) :
    Turn P w K (.Tuple elts k pos) (Itet K l) [e,it] e (fun i h=>(∃ old,IsEnum h e it i old)∧IsTupIter h it l i) where
  mem:=by simp
  obj:=fun i h hyp c hc=>by
    obtain⟨⟨old,he⟩,⟨o1,e1,c1,d1⟩⟩:=hyp;have hc':c=e∨c=it:=by simpa using hc
    rcases hc' with rfl|rfl
    · exact⟨_,he,fun v z=>by cases(show Data.fields _=Data.cell v from z)⟩
    · exact⟨o1,e1,fun v z=>by rw [d1] at z;cases z⟩
  keep:=fun i h h' ⟨⟨old,he⟩,h1⟩ kk=>⟨⟨old,kk e (by simp) _ he⟩,zhu h1 fun o e=>kk it (by simp) o e⟩
  item:=by
    intro X hP hw hK hc i pins s σ H E I hf st hg;subst hP hw hK;obtain⟨xs,x,q1,hx⟩:=hg;obtain⟨its1,r1,p1,_⟩:=I.tuple q1;obtain⟨u,hu,ru⟩:=r1.get hx;have W:=WalksT.enumerateD (A:=X.A) (zgg (prog:=X.prog) (w:=X.w) (A:=X.A.in1) (I.ok.hd hc) it l hli its1.toArray) e hei (by simp [hei,Ne.symm hle]) (by simp)
    have hi:i<its1.toArray.size:=by
      have a1:=(List.getElem?_eq_some_iff.mp hu).1;simp only [List.size_toArray];omega
    obtain⟨he,h1⟩:=st;have olt:∀ b∈[e,it],b<s.heap.objs.size:=fun b hb=>by
      obtain⟨old,he'⟩:=he;have hc':b=e∨b=it:=by simpa using hb
      rcases hc' with rfl|rfl
      · exact Heap.lt_size he'
      · obtain⟨_,e,_⟩:=h1;exact Heap.lt_size e
    refine W.item i s _ _ hi ⟨he,h1,p1⟩ fun T vals h1' tk hv' hT hTup mid kp=>?_
    obtain⟨t',u',hu',e'⟩:=hv';subst e';have eu:u'=u:=by
      have:its1[i]?=some u':=by simpa using hu'
      rw [hu] at this;cases this;rfl
    subst eu;refine⟨_,rfl,W.go elts k pos i T _ _ _ mid fun h2' st2 kp2=>?_⟩
    have I1:Inv X pins σ H { s with heap:=h2',toks:=tk }:=I.turnedL (ch:=[e,it]) (fun b o hb e=>kp2 b o hb (kp b o hb e)) fun b hb=>hf b hb
    have hTn:H T=none:=I.hok.fresh hT;obtain⟨o,ho,oc,on,od⟩:=hTup;have ho2:=kp2 T o (W.apart i T _ mid) ho;have I2:Inv X pins σ (upd H T (.tup [.int i,x])) { s with heap:=h2',toks:=tk }:=I1.track hTn (Nat.le_trans I.sz hT) (Nat.ne_of_gt (Nat.lt_of_lt_of_le I.lt hT)) (fun n c e z=>by
        obtain⟨vv,q⟩:=I.cell n c e;exact absurd (Nat.lt_of_lt_of_le q.lt (by rw [z];exact hT)) (Nat.lt_irrefl _)) (fun p hp z=>absurd (Nat.lt_of_lt_of_le (Heap.lt_size (I.pin p hp).1) (by rw [z];exact hT)) (Nat.lt_irrefl _))
      ⟨by show 2≤sizeLine;decide,[.int i t',u'],.cons ⟨t',rfl⟩ (.cons ru .nil),o,ho2,oc,on,od⟩
    refine⟨.ref T,_,I2,rfl,⟨T,x,hTn,rfl,rfl,fun xs' z1=>?_⟩,⟨st2.1,st2.2.1⟩,fun b hb=>?_⟩
    · rw [I.tuple_inj z1 q1];exact hx
    · rw [zd (Nat.ne_of_lt (Nat.lt_of_lt_of_le (olt b hb) hT))];exact(hf b hb).1
  done:=by
    intro X hP hw hK hc i pins s σ H E I hf st hg;subst hP hw hK;obtain⟨xs,q1,hi⟩:=hg;obtain⟨its1,r1,p1,_⟩:=I.tuple q1;have W:=WalksT.enumerateD (A:=X.A) (zgg (prog:=X.prog) (w:=X.w) (A:=X.A.in1) (I.ok.hd hc) it l hli its1.toArray) e hei (by simp [hei,Ne.symm hle]) (by simp)
    obtain⟨he,h1⟩:=st;have ei:i=its1.toArray.size:=by simp only [List.size_toArray];rw [←r1.length];exact hi
    subst ei;refine W.done s _ _ ⟨he,h1,p1⟩ fun h' tk kp=>⟨rfl,?_⟩
    exact I.turnedL (ch:=[e,it]) kp fun b hb=>hf b hb
  self:=fun _ _ _ _ _ st h=>by obtain⟨⟨old,he⟩,_⟩:=st;exact wpAny_pyIter_enum he h
def zlw (K:PySem.W.Frag) (ta:TA):TI:=fun σ H R=>ta σ H fun vs H1=>∃ a,vs=[.ref a]∧(∃ xs,SqT K H1 a xs)∧R (Itet K a) H1
theorem zn7 {X:Cx} {elts:List Expr} {k:Nat} {tpos:Pos} {a:Expr} {ta:TA} {p pos:Pos} (hg:Gl X "enumerate") (hm:X.mg "enumerate" = none) (ha:PA X [a] ta) (hs:starEach [a] X.env=[(false,eval a X.env)]:=by rfl):PI X (.Tuple elts k tpos) (.Call (.Name "enumerate" p) [a] [] pos) (zlw X.K ta):=by
  intro pins s σ H R I h;refine Call_ (Zi I hg hm zlq (PyProof.Rows.callWith_type1 (thn (ha pos pins s σ H _ I h) fun us s1 ⟨vs,H1,I1,r1,q1⟩=>?_) (by rw [hs];rfl) rfl))
  obtain⟨l1,e,⟨xs,hx⟩,q⟩:=q1;subst e;obtain⟨u,rfl,ru⟩:=jO r1;cases(show u=Value.ref l1 from ru)
  obtain⟨its1,_,p1,_⟩:=I1.tuple hx;have lt1:l1<s1.heap.objs.size:=by obtain⟨o,e,_⟩:=p1;exact Heap.lt_size e
  refine zjZ p1 fun h' he hi1 hsz kp=>wpAny_pyIter_enum he ?_
  have I2:Inv X pins σ H1 { s1 with heap:=h' }:=I1.kept (t':=s1.toks) kp
  refine⟨_,[s1.heap.objs.size+1,s1.heap.objs.size],_,Itet X.K l1,H1,rfl,I2,ziI (Nat.succ_ne_self _) (Nat.ne_of_lt (Nat.lt_succ_of_lt lt1)) (Nat.ne_of_lt lt1),⟨⟨_,he⟩,hi1⟩,fun b hb=>?_,q⟩
  have hb':s1.heap.objs.size≤b:=by
    have hc':b=s1.heap.objs.size+1∨b=s1.heap.objs.size:=by simpa using hb
    rcases hc' with rfl|rfl<;>omega
  have f:=I1.fpOk (H':=H1) hb' (I1.hok.fresh hb');exact⟨f.1,f.2.1,f.2.2.1,f.2.2.2.1,f.2.2.2.2.1,f.2.2.2.2.2⟩
end L2
namespace L3
open PySem PySem.Spec PyProof.Rows L2
variable [LamW]
section
variable {X:Cx} {H0:Hp} {pos p:Pos}
def itET (t:TA3):TI3:=fun ρ Q=>t ρ fun cs=>∃ f as,cs=[.sh f (.tuple as)]∧Q f (Jo as)
theorem zmU {K:PySem.W.Frag} {H0 G:Hp} {a:Addr} {xs:List V} {f:Bool} {as:List D} (h1:SqT K G a xs) (r1:Rfs K H0 G f xs as):ItOk K H0 (Itet K a) f (Jo as) G where
  go:=fun i d G' H hd s1 s2=>by
    obtain⟨q,rfl,hq⟩:=zn0 hd;obtain⟨x,hx,rx⟩:=r1.get hq;have ss:=s1.trans s2.s;refine⟨⟨xs,x,ss.tup h1,hx⟩,fun v H' ⟨l,x',hl,e1,e2,hh⟩=>?_⟩
    subst e1 e2;have z1:=hh xs (ss.tup h1);rw [hx] at z1;cases z1;have gl:=z5 (s2.free hl) (.tup [.int i,x]);exact⟨upd G' l (.tup [.int i,x]),Gr.put s2 hl,⟨.tup (SqT.of zh) (.cons (.int _) (.cons (jx (s1.trans gl) rx.rd) .nil)),fun hf=>
      .tup zh (.cons (.int _) (.cons (j8 (s1.trans gl) (fun _ _ _ z=>z) (rx.nw hf)) .nil))⟩⟩
  stop:=fun i G' H hl s1 s2=>⟨xs,(s1.trans s2.s).tup h1,by rw [hl,zi8,r1.length]⟩
theorem zob {elts:List Expr} {k:Nat} {tpos:Pos} {a:Expr} {t:TA3} (hg:Gl X "enumerate") (hm:X.mg "enumerate" = none) (ha:PA3 X H0 [a] t) (hs:starEach [a] X.env=[(false,eval a X.env)]:=by rfl):PI3 X H0 (.Tuple elts k tpos) (.Call (.Name "enumerate" p) [a] [] pos) (itET t):=
  ⟨fun ρ Q Q' h q=>ha.mono ρ _ _ (fun cs ⟨f,as,e,q⟩=>⟨f,as,e,h _ _ q⟩) q,PI.imp (zn7 hg hm ha.ok hs) fun σ H R=>el5 fun G0 ρ G F q=>⟨G0,ρ,G,F,ha.mono ρ _ _ (fun cs hyp vs G1 H1 g1 w=>by
    obtain⟨f,as,e,k⟩:=hyp;subst e;obtain⟨v,rfl,w1⟩:=vws1 w;obtain⟨a,xs,rfl,hq,rs⟩:=Zl (zi w1);exact⟨a,rfl,⟨xs,g1.sub.tup hq⟩,k _ G1 H1 g1 (zmU hq rs)⟩) q⟩⟩
end
end L3
namespace L2
open PySem PySem.Spec PyProof.Rows
section
variable {X:Cx} {pos:Pos}
def gLst (K:PySem.W.Frag) (n:Nat) (t:TGs):TG:=fun v σ H Q=>∃ a xs,v=.ref a∧SqL K H a xs∧xs.length=n∧t xs σ H Q
theorem znj {es:List Expr} {k:Nat} {t:TGs} {n:Nat} (hc:X.calm=true) (h:PGs X es t)
    (hn:(assignEach es X.env).length=n:=by rfl) (hst:(assignEach es X.env).findIdx? (·.1)=none:=by rfl):PG X (.Tuple es k pos) (gLst X.K n t):=by
  intro pins s σ H v u Q I r hw;obtain⟨a,xs,rfl,hq,hl,hw⟩:=hw;cases r;obtain⟨its,rv,ht,hz⟩:=I.list hq;rw [PyProof.Rows.assign_Tuple];refine wpAny_bind (wpAny_standAt ?_);unfold unpack;rw [show(assignEach es X.env).length=its.toArray.size by simp [hn,←hl,rv.length],hst]
  refine wpAny_bind (wpAny_holding (PySem.W.kun_itemsOf (I.ok.hd hc) ht.isList fun h' hx=>?_))
  exact h pins _ σ H xs _ Q (I.kept (t':=s.toks) fun b o e=>hx b o (Nat.ne_of_lt (Heap.lt_size e)) e) (by simpa using rv) hw
end
def KTab (K:PySem.W.Frag) (a:Addr) (kvs:List (Str×V)):Prop:=∃ o es ep,K.lookup a=some o∧o.ExactDict∧o.data=.dict es ep∧KTD.Rows RelV es.toList kvs
section
variable {X:Cx} {pins:List (Addr×Obj)} {σ : St} {H:Hp} {s:Shared} {a:Addr} {kvs:List (Str×V)} {k:Str} {tk:Tok} {A:Around} {E:Value→Shared→Prop}
theorem KTab.typeIs (T:KTab X.K a kvs) (I:Inv X pins σ H s):s.TypeIs (.ref a) "dict":=let ⟨o,_,_,h,c,_⟩:=T;⟨o,I.kIn _ _ h,c.1⟩
theorem zgG {Q:Option Value→Shared→Prop} (T:KTab X.K a kvs) (I:Inv X pins σ H s) (q:∀ r,RelO (KTD.datumAt k kvs) r→Q r { s with toks:=s.toks+1 }):wpAny (model X.prog X.w) A (dictGet a (.str k tk)) Q E s:=by
  obtain⟨o,es,ep,h1,hc,hd,hr⟩:=T;have ho:=I.kIn _ _ h1;unfold dictGet
  (try with_reducible refine wpAny_holding ?_)
  refine wpAny_bind (wpAny_pyHash_str (wpAny_bind (KTD.kt_dictFind_strs (s:={ s with toks:=s.toks+1 }) ho hd (by obtain⟨l⟩:=es;simpa using hr.exact) ?_)))
  have hq:Q (findBy (fun k v=>v.isStr k) es k) { s with toks:=s.toks+1 }:=by
    refine q _ ?_
    rw [show findBy (fun k v=>v.isStr k) es k=(es.toList.find? fun e=>e.key.isStr k).map (·.val) by obtain⟨l⟩:=es;simp [findBy]]
    cases hat:KTD.datumAt k kvs with
    | some d=>obtain⟨v,hv,hfl⟩:=hr.find_some hat;rw [hv];exact hfl
    | none=>rw [hr.find_none hat];exact True.intro
  rw [findBy_of_findIdx?] at hq;cases hi:es.findIdx? fun e=>e.key.isStr k with
  | none=>rw [hi] at hq;exact wpAny_pure hq
  | some i=>rw [hi] at hq;exact wpAny_bind (wpAny_dictEntries (s:={ s with toks:=s.toks+1 }) ho hd (wpAny_pure hq))
theorem ziO {v:V} {Q:Value→Shared→Prop} (T:KTab X.K a kvs) (I:Inv X pins σ H s) (hv:KTD.datumAt k kvs=some v) (q:∀ u s',Inv X pins σ H s'→RelV v u→Q u s'):wpAny (model X.prog X.w) A (getItem (.ref a) (.str k tk)) Q E s:=by
  have ty:=T.typeIs I;unfold getItem
  (try with_reducible refine wpAny_holding ?_)
  refine wpAny_bind (wpAny_sequenceKey ty (by decide) ?_);refine wpAny_bind (wpAny_callSpecial?_slot (name:=Str.ofString "__getitem__") ty slot_dict_getitem (wpAny_call_entry slot_dict_getitem ty entry_dict_getitem ?_ (args_dict_getitem _ _)))
  show wpAny _ _ (dictGet a (.str k tk) >>= _) _ _ s;refine wpAny_bind (zgG T I fun r hr=>?_)
  rw [hv] at hr;cases r with
  | none=>exact hr.elim
  | some u=>exact wpAny_pure ⟨u,rfl,wpAny_pure (q u _ (I.tok _) hr)⟩
theorem ziM {Q:Value→Shared→Prop} (T:KTab X.K a kvs) (I:Inv X pins σ H s) (hv:(KTD.datumAt k kvs).isSome=true) (q:∀ s',Inv X pins σ H s'→Q (.bool false) s'):wpAny (model X.prog X.w) A (compareOp .NotIn (.str k tk) (.ref a)) Q E s:=by
  have ty:=T.typeIs I;show wpAny _ _ (do return .bool (!(←contains (.ref a) (.str k tk)))) Q E s;refine wpAny_bind ?_
  unfold contains;refine wpAny_holding ?_;refine wpAny_bind (wpAny_specialOf ty slot_dict_contains.lookup ?_);show wpAny _ _ (if(some (Value.builtin "dict.__contains__")==some Value.none)=true then _ else _) _ E s;rw [if_neg (by rw [beq_builtin_none];exact Bool.false_ne_true)]
  refine wpAny_bind (wpAny_callSpecialUnlessNone?_slot (name:=Str.ofString "__contains__") ty slot_dict_contains (wpAny_call_entry slot_dict_contains ty entry_dict_contains ?_ (args_dict_contains _ _)))
  show wpAny _ _ (dictGet a (.str k tk) >>= _) _ _ s;refine wpAny_bind (zgG T I fun r hr=>?_)
  cases e:KTD.datumAt k kvs with
  | none=>rw [e] at hv;cases hv
  | some v=>
    rw [e] at hr;cases r with
    | none=>exact hr.elim
    | some u=>exact wpAny_pure ⟨_,rfl,wpAny_truthy_bool (wpAny_pure (q _ (I.tok _)))⟩
end
section
variable {X:Cx} {a:Addr} {kvs:List (Str×V)} {x:Str} {e:Expr} {np pos:Pos} {ty:TE} {E:XK}
def tKG (kvs:List (Str×V)) (ty:TE):TE:=fun σ H Q=>ty σ H fun y H1=>∃ k v,y=.str k∧KTD.datumAt k kvs=some v∧Q v H1
theorem zgp (hg:Gl X x) (hm:X.mg x=some (.ref a)) (T:KTab X.K a kvs) (he:PE X e ty) (hs:NoSl e) (hd:(x==("__debug__" : Str))=false:=by decide):PE X (.Subscript (.Name x np) e pos) (tKG kvs ty):=by
  intro pins s σ H Q I h;refine zgm PySem.F.slot_dict_getitem.lookup hs (ZJ I hg hm (thn (he pins s σ H _ I h) fun iv s2 ⟨y,H2,I2,ry,k,v,ey,g,q2⟩=>?_) hd)
  subst ey;obtain⟨t,rfl⟩:=ry;exact⟨T.typeIs I2,ziO T I2 g fun u s3 I3 r=>⟨v,H2,I3,r,q2⟩⟩
def tKN (kvs:List (Str×V)) (ty:TE):TE:=fun σ H Q=>ty σ H fun y H1=>∃ k,y=.str k∧(KTD.datumAt k kvs).isSome=true∧Q (.bl false) H1
theorem zln (hg:Gl X x) (hm:X.mg x=some (.ref a)) (T:KTab X.K a kvs) (he:PE X e ty) (hd:(x==("__debug__" : Str))=false:=by decide):PC X .NotIn e (.Name x np) (tKN kvs ty):=by
  intro pins s σ H Q I h;refine thn (he pins s σ H _ I h) fun iv s2 ⟨y,H2,I2,ry,k,ey,g,q2⟩=>ZJ I2 hg hm ?_ hd
  subst ey;obtain⟨t,rfl⟩:=ry;exact ziM T I2 g fun s3 I3=>⟨.bl false,H2,I3,rfl,q2⟩
def FnA (P:Program) (w:World) (K:PySem.W.Frag) (mg:Str→Option Value) (base:Heap) (k:Nat) (f:Addr) (sp:Sp):Prop:=∃ fd ps,FnOk P w K mg base (CXR P w) k f fd ps sp∧Binds K fd ps []∧PySem.W.keepIn K (.ref f)=true
def tCV (X:Cx) (k i:Nat) (E:XK) (t:TA):TE:=fun σ H Q=>∃ f sp,σ[i]?=some (some (.ref f))∧FnA X.prog X.w X.K X.mg X.base k f sp∧t σ H fun vs H1=>sp vs H1 Q E
theorem zjg {k i:Nat} {es:List Expr} {t:TA} (hr:Room k X.A) (hN:X.N[i]?=some x) (hv:Vis X.env.scope x) (hx:Passes (CXR X.prog X.w) X E) (ha:PA X (e::es) t) (hd:(x==("__debug__" : Str))=false:=by decide) (hcd:(x==("__classdict__" : Str))=false:=by decide)
    (he:starEach (e::es) X.env=(false,eval e X.env)::starEach es X.env:=by rfl) (hpl:(backTo pos (starEach es X.env)).any (·.1)=false:=by rfl):PE X (.Call (.Name x np) (e::es) [] pos) (tCV X k i E t):=by
  intro pins s σ H Q I h;obtain⟨f,sp,h1,⟨fd,ps,F,hb,hk⟩,h2⟩:=h;refine wpAny_Call_Name_kw (thn (z6 hN hv hd hcd pins s σ H (fun v H1=>v=.ref f∧H1=H) I ⟨.ref f,h1,rfl,rfl⟩) fun u s1 ⟨y,H1,I1,r1,e1,e2⟩=>?_)
  subst e1 e2;cases(show u=Value.ref f from r1)
  refine PySem.W.callWith_K (h₀:=X.base) I.ok.mod.kin hk (thn (ha pos pins s1 σ H1 _ I1 h2) fun us s2 ⟨vs,H2,I2,r,q⟩=>⟨I2.kIn,?_⟩) he hpl
  exact zdU F hr hb .nil hx I2 r (by rw [List.append_nil];exact q)
end
end L2
namespace L3
open PySem PySem.Spec PyProof.Rows L2
variable [LamW]
def TabD (K:PySem.W.Frag) (a:Addr) (ds:List (Str×D)):Prop:=∃ kvs,KTab K a kvs∧∀ k d,KTD.datumAt k ds=some d→∃ v,KTD.datumAt k kvs=some v∧RdV K (fun _=>none) v d
section
variable {X:Cx} {H0:Hp} {e:Expr} {pos np:Pos} {x y:Str} {i:Nat}
def za6 (n:Nat) (t:TGs3):TG3:=fun f d ρ Q=>asLd d fun ds=>ds.length=n∧t f ds ρ Q
theorem zhh {d:D} {P:List D→Prop} (h:asLd d P):∃ ds,d=.list ds∧P ds:=by
  cases d with
  | list ds=>exact⟨ds,rfl,h⟩
  | _=>exact False.elim h
theorem znE {es:List Expr} {k:Nat} {t:TGs3} {n:Nat} (hc:X.calm=true) (h:PGs3 X H0 es t) (hn:(assignEach es X.env).length=n:=by rfl) (hst:(assignEach es X.env).findIdx? (·.1)=none:=by rfl):PG3 X H0 (.Tuple es k pos) (za6 n t):=
  ⟨fun f d ρ Q Q' hq q=>by obtain⟨ds,e,l,q'⟩:=zhh q;subst e;exact⟨l,h.mono f ds ρ _ _ hq q'⟩,PG.imp (znj hc h.ok hn hst) fun v σ H Q hyp=>by
    obtain⟨G0,ρ,G,f,d,F,r,q⟩:=hyp;obtain⟨ds,e,l,q'⟩:=zhh q;subst e;obtain⟨a,xs,rfl,hq,rs⟩:=zad r;exact⟨a,xs,rfl,F.sub.seq hq,by rw [rs.length];exact l,G0,ρ,G,f,ds,F,rs,q'⟩⟩
def zbq (ds:List (Str×D)) (te:TE3):TE3:=fun ρ Q=>te ρ fun c=>∃ f k,c=.sh f (.str k)∧optP (KTD.datumAt k ds) fun d=>Q (.sh (zx d) d)
theorem zfD {ds:List (Str×D)} {te:TE3} (hg:Gl X x) (hm:∃ a,X.mg x=some (.ref a)∧TabD X.K a ds) (he:PE3 X H0 e te) (hs:NoSl e:=by exact fun _ _=>rfl) (hd:(x==("__debug__" : Str))=false:=by decide):PE3 X H0 (.Subscript (.Name x np) e pos) (zbq ds te):=by
  obtain⟨a,hm,kvs,T,hv⟩:=hm;refine⟨fun ρ Q Q' h q=>he.mono ρ _ _ (fun c ⟨f,k,e,q⟩=>⟨f,k,e,by obtain⟨d,e,q⟩:=z8 q;rw [e];exact h _ q⟩) q,PE.imp (zgp hg hm T he.ok hs hd) fun σ H Q=>el5 fun G0 ρ G F q=>⟨G0,ρ,G,F,he.mono ρ _ _ (fun c q0 v G1 H1 g1 w1=>?_) q⟩⟩
  obtain⟨f,k,rfl,q⟩:=q0;obtain⟨d,e,q⟩:=z8 q;obtain⟨u,e1,r⟩:=hv k d e;have r':RdV X.K G1 u d:=jx (fun b o e=>by cases e) r
  exact⟨k,u,zW (zi w1).rd,e1,q _ G1 H1 g1 (.sh ⟨r',fun hf=>Jg hf r'⟩)⟩
def zba (ds:List (Str×D)) (te:TE3):TE3:=fun ρ Q=>te ρ fun c=>∃ f k,c=.sh f (.str k)∧(KTD.datumAt k ds).isSome=true∧Q (.sh true (.bool false))
theorem zi1 {ds:List (Str×D)} {te:TE3} (hg:Gl X x) (hm:∃ a,X.mg x=some (.ref a)∧TabD X.K a ds) (he:PE3 X H0 e te) (hb:behindInMarks .NotIn (.Name x np)=false:=by rfl) (hd:(x==("__debug__" : Str))=false:=by decide):PT3 X H0 (.Compare e [.NotIn] [.Name x np] pos) (tt3 (zba ds te)):=by
  obtain⟨a,hm,kvs,T,hv⟩:=hm;refine⟨zbK fun ρ Q Q' h q=>he.mono ρ _ _ (fun c ⟨f,k,e,z,q⟩=>⟨f,k,e,z,h _ q⟩) q,PT.imp (zje (zln hg hm T he.ok hd) hb) fun σ H Q=>el5 fun G0 ρ G F q=>⟨G0,ρ,G,F,he.mono ρ _ _ (fun c q0 v G1 H1 g1 w1=>?_) q⟩⟩
  obtain⟨f,k,rfl,z,q⟩:=q0;cases e:KTD.datumAt k ds with
  | none=>rw [e] at z;cases z
  | some d=>
    obtain⟨u,e1,_⟩:=hv k d e;exact⟨k,zW (zi w1).rd,by rw [e1];rfl,_,rfl,q _ _ g1⟩
def ans3 (tab:List (Str×SpO)) (i j:Nat) (te:TE3) (t:TA3):TS3:=fun A ρ=>te ρ fun c=>∃ f k,c=.sh f (.str k)∧i < ρ.length∧optP (KTD.datumAt k tab) fun sp=>jX sp j t (ρ.set i none) fun f d ρ'=>A.rm (.sh f d) ρ'
theorem zkj {tab:List (Str×SpO)} {j n:Nat} {z:Str} {te:TE3} {t:TA3} {es:List Expr} {E:XK} {p1 p2 p3 p4 p5 p6:Pos} (hr:Room n X.A) (hN:X.N.Nodup) (hi:X.N[i]?=some y) (hy:Loc X.env.scope y) (hvy:Vis X.env.scope y) (hj:X.N[j]?=some z) (hvz:Vis X.env.scope z) (hx:Passes (CXR X.prog X.w) X E) (hg:Gl X x)
    (hm:∃ a kvs,X.mg x=some (.ref a)∧KTab X.K a kvs∧∀ k sp,KTD.datumAt k tab=some sp→(∀ o cs (Q Q':Ob→Bool→D→Prop),(∀ o f d,Q o f d→Q' o f d)→sp o cs Q→sp o cs Q')∧∃ f,KTD.datumAt k kvs=some (.ref f)∧FnA X.prog X.w X.K X.mg X.base n f (spO X.K sp))
    (he:PE3 X H0 e te) (ha:PA3 X H0 es t) (hij:i≠j) (hs:NoSl e:=by exact fun _ _=>rfl) (hd:(x==("__debug__" : Str))=false:=by decide) (hdy:(y==("__debug__" : Str))=false:=by decide) (hcy:(y==("__classdict__" : Str))=false:=by decide) (hdz:(z==("__debug__" : Str))=false:=by decide) (hcz:(z==("__classdict__" : Str))=false:=by decide)
    (hw:swapsWith (.Subscript (.Name x np) e p1) (some (.Name y p2)) pos.line X.env=pure false:=by rfl) (hf:X.fn y=true∨X.env.scope.names.lookup y=some .local:=by first|exact .inl rfl|exact .inr rfl|assumption)
    (hst:starEach (.Name z p3::es) X.env=(false,eval (.Name z p3) X.env)::starEach es X.env:=by rfl) (hpl:(backTo p4 (starEach es X.env)).any (·.1)=false:=by rfl) :
    PSs3 X H0 [.Assign [.Name y p2] (.Subscript (.Name x np) e p1) pos,.Return (some (.Call (.Name y p5) (.Name z p3::es) [] p4)) p6] (ans3 tab i j te t):=by
  obtain⟨a,kvs,hm,T,hv⟩:=hm;refine PSs.imp (Jw (Zt hN hi hy (zgp hg hm T he.ok hs hd) hw hf) (zby (zat (zjg hr hi hvy hx (zR (z6 hj hvz hdz hcz) ha.ok hst) hdy hcy hst hpl)))) fun B σ H=>el7 fun G0 A ρ G F q L=>⟨G0,ρ,G,F,he.mono ρ _ _ (fun c q0 v G1 H1 g1 w1=>?_) q⟩
  obtain⟨f,k,rfl,hlt,q⟩:=q0;obtain⟨sp,e1,q⟩:=z8 q;obtain⟨mono,fa,e2,FA⟩:=hv k sp e1;obtain⟨o,hj',q⟩:=jf q;have F1:Fr3 X.K H0 G0 (ρ.set i none) (σ.set i (some (.ref fa))) G1 H1:=((F.gr g1).drop (i:=i)).any (List.getElem?_set_self hlt);refine⟨k,.ref fa,zW (zi w1).rd,e2,fa,spO X.K sp,List.getElem?_set_self (by rw [←F.len];exact hlt),FA,.ref o.a,(jE F1 hj').1,G0,_,G1,F1,ha.mono _ _ _ (fun cs ⟨ok,q⟩ us G2 H2 g2 w=>?_) q⟩
  exact zej (R:=fun f d ρ'=>A.rm (.sh f d) ρ') mono (F1.gr g2) hj' w ok q fun f d ρ' v G' H' F' r k=>L.rm _ v ρ' _ G' H' F' (.sh r) (fun a z=>False.elim z) k
def spRO (sp:SpR):SpO:=fun o cs Q=>optP (jH (.ob o::cs)) fun cs'=>sp cs' fun f d=>zx d=true∧Q o f d
theorem ziu {sp:SpR} (h:∀ cs (Q Q':Bool→D→Prop),(∀ f d,Q f d→Q' f d)→sp cs Q→sp cs Q') (o:Ob) (cs:List Cl) (Q Q':Ob→Bool→D→Prop) (hq:∀ o f d,Q o f d→Q' o f d) (q:spRO sp o cs Q):spRO sp o cs Q':=by
  obtain⟨cs',e,q⟩:=z8 q;unfold spRO;rw [e];exact h _ _ _ (fun f d ⟨a,q⟩=>⟨a,hq _ _ _ q⟩) q
theorem zik {K:PySem.W.Frag} {sp:SpR} (h:∀ cs (Q Q':Bool→D→Prop),(∀ f d,Q f d→Q' f d)→sp cs Q→sp cs Q') (vs:List V) (H:Hp) (Q:VK) (E:XK) (q:spO K (spRO sp) vs H Q E):spR K sp vs H Q E:=by
  obtain⟨G,o,us,cs,rfl,sG,wo,w,ok,q⟩:=q;obtain⟨cs',e,q⟩:=z8 q;obtain⟨w',ok'⟩:=(Vws.cons (.ob wo) w).argR sG e;refine⟨cln H,cs',zcc H,w',ok',h _ _ _ (fun f d ⟨sc,q⟩ v G' H' g r=>?_) q⟩
  have kp:zt (bar H o.as) H':=zt.trans (Same.x fun b u e=>by
    by_cases hb:b∈o.as
    · rw [zbr hb] at e;cases e
    · rwa [jF hb] at e) g.h
  refine q v G H' ⟨Same.refl _,kp,sG.trans g.h,fun _ _ e=>.inl e⟩ (wo.mv (Same.refl _) fun a ha=>⟨?_,rfl⟩) rfl (fun a ha=>.inl ha) (.sc sc (zdF sc r.rd))
  obtain⟨⟨u,e,no,_⟩,_⟩:=wo.has ha;rw [e,g.h.at e no]
end
variable [LamW]
mutual
def nol:D→Bool
  | .tuple ds=>nols ds
  | .list _=>false
  | .int _=>true
  | .bool _=>true
  | .str _=>true
  | .none=>true
  | _=>false
def nols:List D→Bool
  | []=>true
  | d::r=>nol d&&nols r
end
def but (G:Hp) (l:Addr):Hp:=fun b=>if b=l then none else G b
theorem Z1 {G:Hp} {l b:Addr} (h:b≠l):but G l b=G b:=if_neg h
theorem zdt {G:Hp} {l b:Addr} {o:HO} (h:but G l b=some o):b≠l∧G b=some o:=by
  by_cases e:b=l
  · unfold but at h;rw [if_pos e] at h;cases h
  · rw [Z1 e] at h;exact⟨e,h⟩
section
variable {K:PySem.W.Frag} {G:Hp} {l:Addr} {us:List V}
theorem znu {a:Addr} {xs:List V} (hl:G l=some (.lst us)) (q:SqT K G a xs):SqT K (but G l) a xs:=by
  rcases q with (q|⟨o,q⟩)|q
  · exact .inl (.inl ((Z1 fun z=>by rw [z,hl] at q;cases q).trans q))
  · exact .inl (.inr ⟨o,(Z1 fun z=>by rw [z,hl] at q;cases q).trans q⟩)
  · exact .inr q
mutual
theorem znW (hl:G l=some (.lst us)):∀ {x:V} {d:D},nol d=true→RdV K G x d→RdV K (but G l) x d
  | _,_,_,.non=>.non
  | _,_,_,.bl b=>.bl b
  | _,_,_,.int i=>.int i
  | _,_,_,.str x=>.str x
  | _,_,h,.tup q r=>.tup (znu hl q) (rdvs_but hl (by unfold nol at h;exact h) r)
  | _,_,h,.lst _ _=>by unfold nol at h;cases h
theorem rdvs_but (hl:G l=some (.lst us)):∀ {xs:List V} {ds:List D},nols ds=true→RdVs K G xs ds→RdVs K (but G l) xs ds
  | _,_,_,.nil=>.nil
  | _, _, h, .cons a b => by
    unfold nols at h;rw [Bool.and_eq_true] at h;exact .cons (znW hl h.1 a) (rdvs_but hl h.2 b)
end
mutual
theorem zid {H0:Hp} (hl:G l=some (.lst us)):∀ {x:V} {d:D},nol d=true→RdN K H0 G x d→RdN K H0 (but G l) x d
  | _,_,_,.non=>.non
  | _,_,_,.bl b=>.bl b
  | _,_,_,.int i=>.int i
  | _,_,_,.str x=>.str x
  | _,_,h,.tup q r=>.tup ((Z1 fun z=>by rw [z,hl] at q;cases q).trans q) (rdns_but hl (by unfold nol at h;exact h) r)
  | _,_,h,.lst _ _ _=>by unfold nol at h;cases h
theorem rdns_but {H0:Hp} (hl:G l=some (.lst us)):∀ {xs:List V} {ds:List D},nols ds=true→RdNs K H0 G xs ds→RdNs K H0 (but G l) xs ds
  | _,_,_,.nil=>.nil
  | _, _, h, .cons a b => by
    unfold nols at h;rw [Bool.and_eq_true] at h;exact .cons (zid hl h.1 a) (rdns_but hl h.2 b)
end
end
section
variable {X:Cx} {H0:Hp} {e:Expr} {i j:Nat}
def thF (i j:Nat) (t:TN3):TN3:=fun ρ Q=>atB ρ[i]? fun o=>flO o.fs[j]? fun _ ds=>t (ρ.set i (some (.ob (o.put j (.sh (.list ds)))))) fun f es=>nols es=true∧Q f es
theorem Fr3.frzF {K:PySem.W.Frag} {G0:Hp} {ρ : Env3} {σ : L2.St} {G H:Hp} (F:Fr3 K H0 G0 ρ σ G H) {o:Ob} {l:Addr} {ds:List D} (h:ρ[i]?=some (some (.ob o))) (hj:o.fs[j]?=some (.ow l ds)) :
    ∃ us,H l=some (.lst us)∧G l=none∧Fr3 K H0 G0 (ρ.set i (some (.ob (o.put j (.sh (.list ds)))))) σ (upd G l (.lst us)) H:=by
  obtain⟨hσ,w⟩:=jE F h;obtain⟨vs,a1,a2,a3,a4⟩:=w.top;obtain⟨v,b1,b2⟩:=a4 j _ hj;obtain⟨n1,n2⟩:=List.nodup_cons.mp w.nd;cases b2 with
  | ow p r n=>
    rename_i us;refine⟨us,p,n,?_⟩;have gs:Same G (upd G l (.lst us)):=z5 n _;have hmem:l∈o.as:=List.mem_cons_of_mem _ (zP hj List.mem_cons_self);have wo:ObAt K (upd G l (.lst us)) H (o.put j (.sh (.list ds))):=by
      refine⟨⟨vs,a1,a2,by unfold Ob.put;rw [List.length_set];exact a3,fun k fl e=>?_⟩,?_,List.nodup_cons.mpr ⟨fun z=>?_,zds n2 hj List.nodup_nil fun a z=>by cases z⟩⟩
      · rcases zO e with ⟨rfl,rfl,_⟩|⟨nk,q⟩
        · exact⟨_,b1,.sh (.lst (SqL.of zh) (rdvs_same gs r))⟩
        · obtain⟨u,c1,c2⟩:=a4 k fl q
          exact⟨u,c1,c2.mv gs fun a ha=>⟨rfl,zd fun z=>nk (zaB n2 hj q (z ▸ List.mem_cons_self) ha)⟩⟩
      · show upd G l (.lst us) o.a=none
        rw [zd (fun z=>n1 (by rw [z];exact zP hj List.mem_cons_self))];exact w.topG
      · rcases JP z with z|⟨k,x,_,h5,h6⟩
        · cases z
        · exact n1 (zP h5 h6)
    have sub:∀ a,a∈(o.put j (.sh (.list ds))).as→a∈o.as∧a≠l:=fun a z=>by
      rcases List.mem_cons.mp z with z|z
      · have z:a=o.a:=z
        rw [z];exact⟨List.mem_cons_self,fun y=>n1 (by rw [y];exact zP hj List.mem_cons_self)⟩
      · rcases JP z with z|⟨k,x,nk,h5,h6⟩
        · cases z
        · exact⟨List.mem_cons_of_mem _ (zP h5 h6),fun y=>nk (zaB n2 h5 hj h6 (y ▸ List.mem_cons_self))⟩
    have oth:∀ (k:Nat) (c:Cl) (v:V) (a:Addr),i≠k→ρ[k]?=some (some c)→σ[k]?=some (some v)→Has c v a→a≠l:=fun k c v a nk e e' hh z=>nk (F.apart i k _ c _ v a h e hσ e' (z ▸ hmem) hh)
    have key:∀ {k:Nat} {c:Cl} {v:V} {a:Addr},(ρ.set i (some (.ob (o.put j (.sh (.list ds))))))[k]?=some (some c)→Has c v a→∃ c',ρ[k]?=some (some c')∧Has c' v a:=fun {k c v a} e hh=>by
      rcases zO e with ⟨rfl,q,_⟩|⟨nk,q⟩
      · cases q;exact⟨_,h,(sub a hh).1⟩
      · exact⟨c,q,hh⟩
    refine⟨F.keep,⟨fun b u e=>?_,fun b f e=>?_⟩,fun b u e=>?_,F.g0.trans gs,fun k c e=>?_,fun k c v a e e' hh=>?_,fun k m c c' v v' a e1 e2 e3 e4 h1 h2=>?_,by rw [List.length_set];exact F.len⟩
    · by_cases hb:b=l
      · subst hb;rw [zh] at e;rw [p];exact e
      · rw [zd hb] at e;exact F.sub.s b u e
    · by_cases hb:b=l
      · subst hb;rw [zh] at e;cases e
      · rw [zd hb] at e;exact F.sub.cl b f e
    · by_cases hb:b=l
      · subst hb;exact .inr (.inl (F.mine i _ _ _ h hσ hmem))
      · rw [zd hb] at e;exact F.old b u e
    · rcases zO e with ⟨rfl,q,_⟩|⟨nk,q⟩
      · cases q;exact⟨_,hσ,.ob wo⟩
      · obtain⟨v',h1,h2⟩:=F.slot k c q
        exact⟨v',h1,h2.turn gs (fun _ e=>e) fun a ha=>⟨rfl,zd (oth k c v' a nk q h1 ha)⟩⟩
    · obtain⟨c',q1,q2⟩:=key e hh
      exact F.mine k c' v a q1 e' q2
    · obtain⟨c3,q1,q2⟩:=key e1 h1
      obtain⟨c4,q3,q4⟩:=key e2 h2;exact F.apart k m c3 c4 v v' a q1 q3 e3 e4 q2 q4
theorem zfk {t:TN3} (i j:Nat) (h:PN3 X H0 e t):PN3 X H0 e (thF i j t):=by
  refine⟨fun ρ Q Q' hq q=>?_,PE.imp h.ok fun σ H Q=>el5 fun G0 ρ G F q=>?_⟩
  · obtain⟨o,e1,q⟩:=jf q
    obtain⟨l,ds,e2,q⟩:=zaV q;unfold thF;rw [e1];show flO o.fs[j]? _;rw [e2];exact h.mono _ _ _ (fun f es ⟨a,q⟩=>⟨a,hq _ _ q⟩) q
  · obtain⟨o,e1,q⟩:=jf q
    obtain⟨l,ds,e2,q⟩:=zaV q;obtain⟨us,hl,hg,F1⟩:=F.frzF e1 e2;refine⟨G0,_,_,F1,h.mono _ _ _ (fun f es ⟨hn,q⟩ p vs G' H' g hp r=>?_) q⟩
    have hl':G' l=some (.lst us):=g.g _ _ zh;refine q p vs (but G' l) H' ⟨fun b u e=>?_,g.h,⟨fun b u e=>g.sub.s b u (zdt e).2,fun b f e=>g.sub.cl b f (zdt e).2⟩,fun b u e=>?_⟩ hp ⟨rdvs_but hl' hn r.rd,fun hf=>rdns_but hl' hn (r.nw hf)⟩
    · have nb:=zG e hg
      rw [Z1 nb];exact g.g b u (by rw [zd nb];exact e)
    · obtain⟨nb,e⟩:=zdt e
      rcases g.new b u e with z|z|z
      · rw [zd nb] at z;exact .inl z
      · exact .inr (.inl z)
      · exact .inr (.inr z)
end
end L3
open PySem PySem.Spec PyProof.Rows L2
namespace Law
open PySem L2 L3
section
variable [LamW]
theorem zV {α : Type} {us:List α} (h:us.length=1):∃ a0,us=[a0]:=match us,h with|[a0],_=>⟨a0,rfl⟩
theorem zF {α : Type} {us:List α} (h:us.length=2):∃ a0 a1,us=[a0,a1]:=match us,h with|[a0,a1],_=>⟨a0,a1,rfl⟩
theorem J6 {α : Type} {us:List α} (h:us.length=3):∃ a0 a1 a2,us=[a0,a1,a2]:=match us,h with|[a0,a1,a2],_=>⟨a0,a1,a2,rfl⟩
theorem zdf {α : Type} {us:List α} (h:us.length=4):∃ a0 a1 a2 a3,us=[a0,a1,a2,a3]:=match us,h with|[a0,a1,a2,a3],_=>⟨a0,a1,a2,a3,rfl⟩
def top (i:Nat):Stmt:=PySem.Challenge.pw_chairclans_k39_desk_shows.main.body.getD i (.Pass ⟨0,0,0,0⟩)
def zfs (s:Stmt) (j:Nat):Stmt:=match s with
  | .ClassDef _ _ _ b _ _ _ _ _ _ _=>b.getD j (.Pass ⟨0,0,0,0⟩)
  | s=>s
abbrev zhq:Stmt:=top 133
abbrev zeY:Stmt:=top 136
abbrev zd7:Stmt:=top 139
abbrev zg6:Stmt:=top 141
abbrev zfy:Stmt:=top 137
abbrev zgP:Stmt:=top 142
abbrev zeu:Stmt:=top 138
abbrev zeR:Stmt:=top 144
abbrev zdr:Stmt:=top 140
abbrev zg3:Stmt:=top 134
abbrev zcp:Stmt:=top 135
abbrev zex:Stmt:=top 143
abbrev zdK:Stmt:=top 145
abbrev zfS:Stmt:=top 146
abbrev zdm:Stmt:=top 67
abbrev zg0:Stmt:=top 68
abbrev zet:Stmt:=top 69
abbrev zhI:Stmt:=top 73
abbrev zdQ:Stmt:=top 70
abbrev zhE:Stmt:=top 71
abbrev ze0:Stmt:=top 58
abbrev zfT:Stmt:=top 59
abbrev zf9:Stmt:=top 16
abbrev zfU:Stmt:=top 15
abbrev zgt:Stmt:=top 17
abbrev zhK:Stmt:=top 57
abbrev zfm:Stmt:=top 60
abbrev zfn:Stmt:=top 72
abbrev zgq:Stmt:=top 74
abbrev zgT:Stmt:=top 75
abbrev zdp:Stmt:=top 108
abbrev zgX:Stmt:=top 109
abbrev zf0:Stmt:=top 110
abbrev zhn:Stmt:=top 29
abbrev zdN:Stmt:=top 30
abbrev zfo:Stmt:=top 31
abbrev zfz:Stmt:=top 111
abbrev zhM:Stmt:=top 18
abbrev zgZ:Stmt:=top 22
abbrev zfg:Stmt:=top 112
abbrev zgW:Stmt:=top 79
abbrev zhp:Stmt:=top 113
abbrev zhe:Stmt:=top 114
abbrev zgl:Stmt:=top 115
abbrev zed:Stmt:=top 116
abbrev zgY:Stmt:=top 91
abbrev zfP:Stmt:=top 117
abbrev zfM:Stmt:=top 118
abbrev zfW:Stmt:=top 121
abbrev zfR:Stmt:=top 122
abbrev zcN:Stmt:=top 120
abbrev zdd:Stmt:=top 119
abbrev zcY:Stmt:=top 123
abbrev Zo:Stmt:=zfs (top 131) 1
abbrev zgN:Stmt:=top 147
abbrev zbx:Stmt:=top 148
abbrev Za:Stmt:=zfs (top 131) 0
def zgV:List (Str×L3.D):=[("clan", .tuple [.str "new", .str "number"]),("weight", .tuple [.str "name", .str "number"]),("merge", .tuple [.str "name", .str "name"]),("turns", .tuple [.str "number"]),("bound", .tuple [.str "name", .str "ratio", .str "ratio"]),("fix", .tuple [.str "number", .str "name"]),("bar", .tuple [.str "number", .str "name"]),("free", .tuple [.str "number"]),("clear", .tuple []),("show", .tuple []),("least", .tuple []),("keep", .tuple []),("place", .tuple []),("mend", .tuple []),("round", .tuple [])]
def zg8:List (Str×L3.D):=[("fixed", .str "fix"),("barred", .str "bar")]
structure Cl where
  NoRatio:Addr
  NoText:Addr
  NoSpell:Addr
  NoRow:Addr
  NoBounds:Addr
  NoRule:Addr
  NoLine:Addr
  NoNumber:Addr
  NoName:Addr
  Known:Addr
  TooMany:Addr
def DA (K:PySem.W.Frag) (mg:Str→Option Value) (x:Str) (st:Stmt):Prop:=∃ f fd,Fun K x x st f fd∧mg x=some (.ref f)
structure TxtD (K:PySem.W.Frag) (mg:Str→Option Value):Prop where
  d_law_cell_at:DA K mg "_law_cell_at" zhq
  d_law_digit:DA K mg "_law_digit" zeY
  d_law_turns:DA K mg "_law_turns" zd7
  d_law_weight:DA K mg "_law_weight" zg6
  d_law_low:DA K mg "_law_low" zfy
  d_law_limit:DA K mg "_law_limit" zgP
  d_law_text:DA K mg "_law_text" zeu
  d_law_of_clan:DA K mg "_law_of_clan" zeR
  d_law_shown:DA K mg "_law_shown" zdr
  d_law_name:DA K mg "_law_name" zg3
  d_law_fresh:DA K mg "_law_fresh" zcp
  d_law_new_clan:DA K mg "_law_new_clan" zex
  d_law_of_turns:DA K mg "_law_of_turns" zdK
  d_law_deed:DA K mg "_law_deed" zfS
  d_words_of:DA K mg "words_of" zdm
  d_form_of:DA K mg "form_of" zg0
  d_check_form:DA K mg "check_form" zet
  d_clan_of:DA K mg "clan_of" zhI
  d_is_made_of:DA K mg "is_made_of" zdQ
  d_number_of:DA K mg "number_of" zhE
  d_number_in:DA K mg "number_in" ze0
  d_top_in:DA K mg "top_in" zfT
  d_common_divisor:DA K mg "common_divisor" zf9
  d_is_whole:DA K mg "is_whole" zfU
  d_ratio:DA K mg "ratio" zgt
  d_shown:DA K mg "shown" zhK
  d_read:DA K mg "read" zfm
  d_new_name:DA K mg "new_name" zfn
  d_value_of:DA K mg "value_of" zgq
  d_values_of:DA K mg "values_of" zgT
  d_tell_clan:DA K mg "tell_clan" zdp
  d_tell_weight:DA K mg "tell_weight" zgX
  d_tell_merge:DA K mg "tell_merge" zf0
  d_check_weights:DA K mg "check_weights" zhn
  d_all_turns:DA K mg "all_turns" zdN
  d_check_spells:DA K mg "check_spells" zfo
  d_tell_turns:DA K mg "tell_turns" zfz
  d_less:DA K mg "less" zhM
  d_check_bounds:DA K mg "check_bounds" zgZ
  d_tell_bound:DA K mg "tell_bound" zfg
  d_check_turn:DA K mg "check_turn" zgW
  d_add_rule:DA K mg "add_rule" zhp
  d_tell_fix:DA K mg "tell_fix" zhe
  d_tell_bar:DA K mg "tell_bar" zgl
  d_tell_free:DA K mg "tell_free" zed
  d_check_row:DA K mg "check_row" zgY
  d_tell_row:DA K mg "tell_row" zfP
  d_tell_clear:DA K mg "tell_clear" zfM
  d_shown_clan:DA K mg "shown_clan" zfW
  d_shown_rule:DA K mg "shown_rule" zfR
  d_numbers_in:DA K mg "numbers_in" zcN
  d_names_of:DA K mg "names_of" zdd
  d_answer_show:DA K mg "answer_show" zcY
  d_law_answers:DA K mg "_law_answers" zgN
  d_law:DA K mg "law" zbx
  n_abs:mg "abs" = none
  n_all:mg "all" = none
  n_bool:mg "bool" = none
  n_enumerate:mg "enumerate" = none
  n_int:mg "int" = none
  n_isinstance:mg "isinstance" = none
  n_len:mg "len" = none
  n_list:mg "list" = none
  n_max:mg "max" = none
  n_min:mg "min" = none
  n_range:mg "range" = none
  n_str:mg "str" = none
  n_sum:mg "sum" = none
structure Txt (c:Law.Cl) (K:PySem.W.Frag) (mg:Str→Option Value):Prop extends TxtD K mg where
  m_NoRatio:mg "NoRatio" = some (.ref c.NoRatio)
  m_NoText:mg "NoText" = some (.ref c.NoText)
  m_NoSpell:mg "NoSpell" = some (.ref c.NoSpell)
  m_NoRow:mg "NoRow" = some (.ref c.NoRow)
  m_NoBounds:mg "NoBounds" = some (.ref c.NoBounds)
  m_NoRule:mg "NoRule" = some (.ref c.NoRule)
  m_NoLine:mg "NoLine" = some (.ref c.NoLine)
  m_NoNumber:mg "NoNumber" = some (.ref c.NoNumber)
  m_NoName:mg "NoName" = some (.ref c.NoName)
  m_Known:mg "Known" = some (.ref c.Known)
  m_TooMany:mg "TooMany" = some (.ref c.TooMany)
  m_Desk:mg "Desk" = some (.ref LamW.C)
  cl_D:Cls K LamW.C
  na_names:jd K LamW.C "names"
  na_weights:jd K LamW.C "weights"
  na_bounds:jd K LamW.C "bounds"
  na_spells:jd K LamW.C "spells"
  na_rules:jd K LamW.C "rules"
  na_row:jd K LamW.C "row"
  x_init:∃ f fd,Fun K "__init__" "Desk.__init__" Za f fd∧Mk K LamW.C f
  x_say:∃ f fd,Fun K "say" "Desk.say" Zo f fd∧Meth K LamW.C "say" f
  x_answers:∃ a kvs,mg "ANSWERS" = some (.ref a)∧KTab K a kvs∧(∃ f,mg "tell_clan" = some (.ref f)∧KTD.datumAt ("clan" : Str) kvs=some (.ref f))∧(∃ f,mg "tell_weight" = some (.ref f)∧KTD.datumAt ("weight" : Str) kvs=some (.ref f))∧(∃ f,mg "tell_merge" = some (.ref f)∧KTD.datumAt ("merge" : Str) kvs=some (.ref f))∧(∃ f,mg "tell_turns" = some (.ref f)∧KTD.datumAt ("turns" : Str) kvs=some (.ref f))∧(∃ f,mg "tell_bound" = some (.ref f)∧KTD.datumAt ("bound" : Str) kvs=some (.ref f))∧(∃ f,mg "tell_fix" = some (.ref f)∧KTD.datumAt ("fix" : Str) kvs=some (.ref f))∧(∃ f,mg "tell_bar" = some (.ref f)∧KTD.datumAt ("bar" : Str) kvs=some (.ref f))∧(∃ f,mg "tell_free" = some (.ref f)∧KTD.datumAt ("free" : Str) kvs=some (.ref f))∧(∃ f,mg "tell_row" = some (.ref f)∧KTD.datumAt ("row" : Str) kvs=some (.ref f))∧(∃ f,mg "tell_clear" = some (.ref f)∧KTD.datumAt ("clear" : Str) kvs=some (.ref f))∧(∃ f,mg "answer_show" = some (.ref f)∧KTD.datumAt ("show" : Str) kvs=some (.ref f))
  e_NoRatio:PySem.W.excIn K c.NoRatio bmVE "ValueError.__new__" = true
  e_NoText:PySem.W.excIn K c.NoText bmVE "ValueError.__new__" = true
  e_NoSpell:PySem.W.excIn K c.NoSpell bmVE "ValueError.__new__" = true
  e_NoRow:PySem.W.excIn K c.NoRow bmVE "ValueError.__new__" = true
  e_NoBounds:PySem.W.excIn K c.NoBounds bmVE "ValueError.__new__" = true
  e_NoRule:PySem.W.excIn K c.NoRule bmVE "ValueError.__new__" = true
  e_NoLine:PySem.W.excIn K c.NoLine bmVE "ValueError.__new__" = true
  e_NoNumber:PySem.W.excIn K c.NoNumber bmVE "ValueError.__new__" = true
  e_NoName:PySem.W.excIn K c.NoName bmVE "ValueError.__new__" = true
  e_Known:PySem.W.excIn K c.Known bmVE "ValueError.__new__" = true
  e_TooMany:PySem.W.excIn K c.TooMany bmVE "ValueError.__new__" = true
  m_LEAST_BOUND:∃ a,mg "LEAST_BOUND" = some (.ref a)∧TopD K a (.tuple [.int 0,.int 1])
  m_MOST_BOUND:∃ a,mg "MOST_BOUND" = some (.ref a)∧TopD K a (.tuple [.int 10,.int 1])
  m_MOST_SPELLS:∃ t,mg "MOST_SPELLS" = some (.int 8 t)
  m_MOST_CLANS:∃ t,mg "MOST_CLANS" = some (.int 8 t)
  m_MOST_TURNS:∃ t,mg "MOST_TURNS" = some (.int 60 t)
  m_FIGURES:∃ t,mg "FIGURES" = some (.str "0123456789" t)
  m_MOST_FIGURES:∃ t,mg "MOST_FIGURES" = some (.int 60 t)
  m_LETTERS:∃ t,mg "LETTERS" = some (.str "abcdefghijklmnopqrstuvwxyz" t)
  m_MOST_LETTERS:∃ t,mg "MOST_LETTERS" = some (.int 8 t)
  m_LONGEST_NUMBER:∃ t,mg "LONGEST_NUMBER" = some (.int 12 t)
  m_FORMS:∃ a,mg "FORMS" = some (.ref a)∧TabD K a zgV
  m_KINDS:∃ a,mg "KINDS" = some (.ref a)∧TopD K a (.tuple [.str "number", .str "ratio", .str "new", .str "name"])
  m_FIXED:∃ t,mg "FIXED" = some (.str "fixed" t)
  m_BARRED:∃ t,mg "BARRED" = some (.str "barred" t)
  m_DONE:∃ t,mg "DONE" = some (.str "ok" t)
  m_FIRST_BOUNDS:∃ a,mg "FIRST_BOUNDS" = some (.ref a)∧TopD K a (.tuple [.tuple [.int 1,.int 1],.tuple [.int 1,.int 1]])
  m_WORDS_OF_RULES:∃ a,mg "WORDS_OF_RULES" = some (.ref a)∧TabD K a zg8
theorem zgQ {g l:Int} (hg:0≤g) (hl:0<l):Int.gcd l (g%l)=Int.gcd g l:=by
  obtain⟨m,rfl⟩:=Int.eq_ofNat_of_zero_le hg;obtain⟨n,rfl⟩:=Int.eq_ofNat_of_zero_le (Int.le_of_lt hl);rw [←Int.natCast_emod,Int.gcd_natCast_natCast,Int.gcd_natCast_natCast,Nat.gcd_comm n,←Nat.gcd_rec,Nat.gcd_comm]
theorem zdP {g:Int} (hg:0≤g):(Int.gcd g 0:Int)=g:=by
  rw [Int.gcd_zero_right];omega
theorem zkg (a b:Int):Int.gcd (if a<0 then -a else a) (if b<0 then -b else b)=Int.gcd a b:=by
  split<;>split<;>simp
def dR (a b:Int):D:=.tuple [.int (a/(Int.gcd a b:Int)),.int (b/(Int.gcd a b:Int))]
theorem zoj {a b:Int} (h:0<b):0<(Int.gcd a b:Int):=by
  have:0<Int.gcd a b:=Int.gcd_pos_of_ne_zero_right _ (by omega)
  omega
theorem ziB {a b:Int} {k:Nat} (h:0<b) (hb:Bits k b):Bits k (Int.gcd a b:Int):=by
  refine hb.le ?_
  have:=Int.gcd_le_right a (show 0<b from h)
  omega
theorem zdZ {x a b:Int} (h:0<b) (hb:Bits 9000 b):jM x (Int.gcd a b:Int):=⟨zoj h,ziB h hb⟩
open PySem.NumText in
def st (l:List Nat):Str:=⟨l.toArray⟩
theorem jL (x:Str):st x.cps.toList=x:=by cases x;simp [st]
theorem ju (l:List Nat):(st l).cps.toList=l:=by simp [st]
theorem zcR {a b:List Nat} (h:st a=st b):a=b:=by rw [←ju a,h,ju]
theorem zp (l:List Nat):(st l).length=l.length:=by simp [st,Str.length]
theorem Js (a b:List Nat):st a++st b=st (a++b):=by
  rw [←jL (st a++st b),PySem.W.KT.app_list,ju,ju]
theorem zc8:(Str.ofString "/")=st [47]:=by decide +kernel
theorem zne:(Str.ofString "-")=st [45]:=by decide +kernel
theorem zgH:(Str.ofString "")=st []:=by decide +kernel
theorem zdS (l:List Nat) (c i:Nat):Builtin.Str.subAt (st l) (st [c]) i=decide (l[i]?=some c):=by
  unfold Builtin.Str.subAt;rw [zp];have e:((st l).cps.extract i (i+1)==(st [c]).cps)=decide ((l.drop i).take 1=[c]):=by
    rw [Bool.eq_iff_iff,beq_iff_eq,decide_eq_true_eq]
    constructor
    · intro h
      have:=congrArg Array.toList h
      simpa [st] using this
    · intro h
      apply Array.toList_inj.mp
      simpa [st] using h
  show((st l).cps.extract i (i+1)==(st [c]).cps)=_
  rw [e]
  congr 1
  cases h:l[i]? with
  | none=>
    have:l.length≤i:=by simpa using h
    simp [List.drop_eq_nil_of_le this]
  | some d=>
    have hi:i<l.length:=by
      by_cases z:i<l.length
      · exact z
      · rw [List.getElem?_eq_none (by omega)] at h;cases h
    rw [List.getElem?_eq_getElem hi] at h;cases h;have:List.take 1 (List.drop i l)=[l[i]]:=by rw [List.drop_eq_getElem_cons hi];rfl
    rw [this];simp
theorem znp (l:List Nat) (c:Nat):Txt.startswith (st l) (st [c])=decide (l.head?=some c):=by
  unfold Txt.startswith;rw [zdS,zp,zp];cases l with
  | nil=>simp
  | cons a r=>simp
theorem zeG (l:List Nat) (i j:Nat):Builtin.Str.strSub (st l) i j=st ((l.drop i).take (j - i)):=by
  rw [←jL (Builtin.Str.strSub (st l) i j)]
  congr 1
  simp [Builtin.Str.strSub,st]
theorem zl9 {a b:List Nat} {c:Nat} (h:c∉a):Txt.partition (st (a++c::b)) (st [c])=(st a,st [c],st b):=by
  have at_iff:∀ i,StrLaws.At (st (a++c::b)) (st [c]) (st (a++c::b)).length i↔(a++c::b)[i]?=some c:=by
    intro i;unfold StrLaws.At;rw [zdS,zp,zp,decide_eq_true_eq]
    constructor
    · exact fun z=>z.2
    · intro z
      refine⟨?_,z⟩
      have:i<(a++c::b).length:=by
        by_cases y:i<(a++c::b).length
        · exact y
        · rw [List.getElem?_eq_none (by omega)] at z;cases z
      simp only [List.length_cons,List.length_nil];omega
  unfold Txt.partition
  rcases StrLaws.occ_head (st (a++c::b)) (st [c]) 1 (Nat.le_refl 1) with ⟨e,hn⟩|⟨i,r,e,hi,hn⟩
  · exact absurd ((at_iff a.length).mpr (by simp)) (hn a.length)
  · rw [e]
    have h1:=(at_iff i).mp hi;have hi':i=a.length:=by
      rcases Nat.lt_trichotomy i a.length with z|z|z
      · rw [List.getElem?_append_left z] at h1
        exact absurd (List.mem_of_getElem? h1) h
      · exact z
      · exact absurd ((at_iff a.length).mpr (by simp)) (hn a.length z)
    subst hi';show(Builtin.Str.strSub (st (a++c::b)) 0 a.length,st [c],Builtin.Str.strSub (st (a++c::b)) (a.length+(st [c]).length) (st (a++c::b)).length)=_;rw [zeG,zeG,zp,zp];have e1:((a++c::b).drop 0).take (a.length - 0)=a:=by simp
    have e2:(a++c::b).drop (a.length+1)=b:=by rw [←List.drop_drop,List.drop_left];rfl
    have e3:(b.take ((a++c::b).length - (a.length+1)))=b:=List.take_of_length_le (by simp;omega)
    rw [e1];show(_,_,st (((a++c::b).drop (a.length+1)).take ((a++c::b).length - (a.length+1))))=_;rw [e2,e3]
theorem zmO {a:List Nat} {c:Nat} (h:c∉a):Txt.partition (st a) (st [c])=(st a,st [],st []):=by
  unfold Txt.partition
  rcases StrLaws.occ_head (st a) (st [c]) 1 (Nat.le_refl 1) with ⟨e,hn⟩|⟨i,r,e,hi,hn⟩
  · rw [e];rfl
  · exfalso
    unfold StrLaws.At at hi;rw [zdS,decide_eq_true_eq] at hi;exact h (List.mem_of_getElem? hi.2)
theorem zmg (c:Nat) (r:List Nat):Txt.slice (st (c::r)) (some 1) none=st r:=by
  have e:Builtin.Str.strSliceIndices (some 1) none 1 (st (c::r)).length=(List.range r.length).map (· + 1):=by
    rw [zp];unfold Builtin.Str.strSliceIndices sliceRange;simp only [show(1:Int) > 0 by decide,if_true,show ¬((1:Int)<0) by decide,if_false,List.length_cons]
    have e1:max 0 (min (1:Int) ((r.length+1:Nat):Int))=1:=by omega
    rw [e1];have e2:(if(1:Int)<((r.length+1:Nat):Int) then(((r.length+1:Nat):Int) - 1+1 - 1)/1 else 0).toNat=r.length:=by
      split
      · rw [Int.ediv_one];omega
      · omega
    rw [e2]
    apply List.map_congr_left
    intro k _
    omega
  have e2:(((List.range r.length).map (· + 1)).filterMap ((st (c::r)).cps[·]?))=r:=by
    rw [List.filterMap_map];have:((fun x=>(st (c::r)).cps[x]?)∘fun x=>x+1)=fun i=>r[i]?:=by
      funext i
      simp [st]
    rw [this]
    apply List.ext_getElem?
    intro i;clear e this
    induction r generalizing i with
    | nil=>simp
    | cons x r ih=>
      rw [List.length_cons,List.range_succ_eq_map,List.filterMap_cons];simp only [List.getElem?_cons_zero,List.filterMap_map];cases i with
      | zero=>simp
      | succ i=>simp only [List.getElem?_cons_succ];exact ih i
  unfold Txt.slice;rw [e];rw [if_neg (by simp [zp]),e2]
  rfl
def dg (m:Nat):List Nat:=(Nat.toDigits 10 m).map Char.toNat
def tl (n:Int):List Nat:=if n<0 then 45::dg n.natAbs else dg n.natAbs
theorem zct {m:Nat} (h:m<10):dg m=[48+m]:=by
  unfold dg;rw [Nat.toDigits_of_lt_base h];have:∀ d:Nat,d<10→(Nat.digitChar d).toNat=48+d:=by decide
  simp [this m h]
theorem zeE {m:Nat} (h:10≤m):dg m=dg (m/10)++[48+m%10]:=by
  have hm:m%10<10:=Nat.mod_lt m (by decide)
  have t:Nat.toDigits 10 (m/10)++Nat.toDigits 10 (m%10)=Nat.toDigits 10 (10*(m/10)+m%10):=Nat.toDigits_append_toDigits (by decide) (by omega) hm
  rw [Nat.div_add_mod] at t;rw [←zct hm];unfold dg;rw [←t,List.map_append]
theorem Zs (m:Nat):∀ c∈dg m,48≤c∧c≤57:=by
  intro c hc;unfold dg at hc;obtain⟨ch,hch,e⟩:=List.mem_map.mp hc;have r:=digit_range (Nat.isDigit_of_mem_toDigits (by decide) (by decide) hch)
  rw [←e];exact r
theorem JR:∀ (k m:Nat),1≤k→m<10 ^ k→1≤(dg m).length∧(dg m).length≤k:=by
  intro k
  induction k with
  | zero=>intro m h;omega
  | succ k ih=>
    intro m _ hm
    by_cases h:m<10
    · rw [zct h];simp
    · have hk:1≤k:=by
        rcases Nat.eq_zero_or_pos k with z|z
        · subst z;simp at hm;omega
        · exact z
      have:=ih (m/10) hk (by rw [Nat.pow_succ] at hm;omega)
      rw [zeE (by omega),List.length_append]
      simp;omega
theorem zel (m:Nat):NumText.digitsVal (dg m)=m:=PySem.W.KIN.val_back m
theorem zhS (m:Nat):Str.ofString (toString (m:Int))=st (dg m):=by
  rw [←jL (Str.ofString _),PySem.W.KIN.signs_num];rfl
theorem jc (n:Int):Str.ofString (toString n)=st (tl n):=by
  unfold tl
  by_cases h:n<0
  · rw [if_pos h]
    obtain⟨m,rfl⟩:∃ m:Nat,n=Int.negSucc m:=⟨(-n - 1).toNat,by omega⟩
    rw [←jL (Str.ofString _),signs_ofString]
    congr 1
    show(("-" ++ Nat.repr (m+1):String)).toList.map Char.toNat=_
    rw [String.toList_append,Nat.toList_repr,List.map_append]
    rfl
  · rw [if_neg h]
    obtain⟨m,rfl⟩:=Int.eq_ofNat_of_zero_le (show 0≤n by omega)
    rw [zhS];rfl
theorem Ja {n:Int} {k:Nat} (hk:1≤k) (h:n.natAbs<10 ^ k):(tl n).length≤k+1:=by
  have:=JR k n.natAbs hk h;unfold tl
  split
  · rw [List.length_cons];omega
  · omega
theorem zcd {n:Int} (h:Bits 1500 n):(tl n).length≤501:=Ja (by decide) (Nat.lt_of_lt_of_le h (by decide +kernel))
def figs (l:List Nat):Prop:=1≤l.length∧l.length≤60∧∀ c∈l,48≤c∧c≤57
open Classical in
def numV (l:List Nat):Option Int:=if figs l then some ((NumText.digitsVal l:Nat):Int) else none
def topV (l:List Nat):Option Int:=if l.head?=some 45 then(numV l.tail).map fun v=>-v else numV l
def txR (a b:Int):List Nat:=if b=1 then tl a else tl a++47::tl b
def jN (l:List Nat):Option (Int×Int):=
  (topV (l.takeWhile (·≠47))).bind fun t=>(if 47∈l then numV (l.dropWhile (·≠47)).tail else some 1).bind fun b=>
    if b=0 then none else if txR (t/(Int.gcd t b:Int)) (b/(Int.gcd t b:Int))=l then some (t/(Int.gcd t b:Int),b/(Int.gcd t b:Int)) else none
theorem zfF:∀ (l:List Nat) (a:Nat),(∀ c∈l,48≤c∧c≤57)→l.foldl (fun acc c=>acc*10+(c - 48)) a<(a+1)*10 ^ l.length
  | [],a,_=>by simp
  | c :: l, a, h => by
    have hc:=h c List.mem_cons_self;have:=zfF l (a*10+(c - 48)) fun x hx=>h x (List.mem_cons_of_mem _ hx)
    rw [List.foldl_cons,List.length_cons,Nat.pow_succ];refine Nat.lt_of_lt_of_le this ?_;rw [Nat.mul_comm (10 ^ l.length) 10,←Nat.mul_assoc];exact Nat.mul_le_mul_right _ (by omega)
theorem zb7 {l:List Nat} {v:Int} (h:numV l=some v):0≤v∧v.natAbs<10 ^ 60:=by
  unfold numV at h
  split at h
  · rename_i hf
    cases h;have:=zfF l 0 hf.2.2
    have h2:(10:Nat) ^ l.length≤10 ^ 60:=Nat.pow_le_pow_right (by decide) hf.2.1
    refine⟨by omega,?_⟩
    show NumText.digitsVal l<10 ^ 60
    unfold NumText.digitsVal;rw [Nat.zero_add,Nat.one_mul] at this;exact Nat.lt_of_lt_of_le this h2
  · cases h
theorem zff {l:List Nat} {v:Int} (h:topV l=some v):v.natAbs<10 ^ 60:=by
  unfold topV at h
  split at h
  · cases hn:numV l.tail with
    | none=>rw [hn] at h;cases h
    | some u=>rw [hn] at h;cases h;rw [Int.natAbs_neg];exact(zb7 hn).2
  · exact(zb7 h).2
theorem ze3 {l:List Nat} {t b:Int} (ht:topV (l.takeWhile (·≠47))=some t) (hb:(if 47∈l then numV (l.dropWhile (·≠47)).tail else some 1)=some b):jN l=if b=0 then none else if txR (t/(Int.gcd t b:Int)) (b/(Int.gcd t b:Int))=l then some (t/(Int.gcd t b:Int),b/(Int.gcd t b:Int)) else none:=by
  unfold jN;rw [ht,hb];rfl
theorem b60 {v:Int} (h:v.natAbs<10 ^ 60):Bits 200 v:=Nat.lt_of_lt_of_le h (by decide)
theorem zgA {Q:Bool→D→Prop} {E:Prop} {l:List Nat} {t b:Int} (ht:t.natAbs<10 ^ 60) (hb:0<b) (hB:b.natAbs<10 ^ 60) (hr:jN l=if b=0 then none else if txR (t/(Int.gcd t b:Int)) (b/(Int.gcd t b:Int))=l then some (t/(Int.gcd t b:Int),b/(Int.gcd t b:Int)) else none)
    (q:∀ (a b:Int),jN l=some (a,b)→Q true (.tuple [.int a,.int b])) (hE:jN l=none→E):0<b∧Bits 9000 b∧∃ x y,dR t b=.tuple [.int x,.int y]∧Bits 1500 x∧Bits 1500 y∧if ¬st (txR x y)=st l then E else Q true (dR t b):=by
  rw [if_neg (by omega)] at hr
  refine⟨hb,(b60 hB).mono (by decide),_,_,rfl,((b60 ht).le (Int.natAbs_ediv_le_natAbs _ _)).mono (by decide),((b60 hB).le (Int.natAbs_ediv_le_natAbs _ _)).mono (by decide),?_⟩
  by_cases e:txR (t/(Int.gcd t b:Int)) (b/(Int.gcd t b:Int))=l
  · rw [if_neg (fun z=>z (by rw [e]))]
    exact q _ _ (by rw [hr,if_pos e])
  · rw [if_pos (fun z=>e (zcR z))]
    exact hE (by rw [hr,if_neg e])
theorem zlP (l:List Nat) (h:47∈l):l=l.takeWhile (·≠47)++47::(l.dropWhile (·≠47)).tail:=by
  induction l with
  | nil=>cases h
  | cons x l ih=>
    by_cases hx:x=47
    · subst hx;simp
    · have h':47∈l:=by
        rcases List.mem_cons.mp h with z|z
        · exact absurd z.symm hx
        · exact z
      rw [List.takeWhile_cons,List.dropWhile_cons];simp only [ne_eq,hx,not_false_eq_true,decide_true,if_true,List.cons_append];exact congrArg _ (ih h')
theorem zok (l:List Nat):47∉l.takeWhile (·≠47):=by
  induction l with
  | nil=>simp
  | cons x l ih=>
    rw [List.takeWhile_cons]
    split
    · rename_i hx
      intro z
      rcases List.mem_cons.mp z with z|z
      · rw [←z] at hx;simp at hx
      · exact ih z
    · simp
theorem nowhile {l:List Nat} (h:47∉l):l.takeWhile (·≠47)=l∧l.dropWhile (·≠47)=[]:=by
  induction l with
  | nil=>simp
  | cons x l ih=>
    have hx:x≠47:=fun z=>h (z ▸ List.mem_cons_self)
    have:=ih fun z=>h (List.mem_cons_of_mem _ z)
    rw [List.takeWhile_cons,List.dropWhile_cons];simp only [ne_eq,hx,not_false_eq_true,decide_true,if_true];exact⟨congrArg _ this.1,this.2⟩
theorem zjq (l:List Nat):Txt.partition (st l) (st [47])=(st (l.takeWhile (·≠47)),st (if 47∈l then [47] else []),st (l.dropWhile (·≠47)).tail):=by
  by_cases h:47∈l
  · have e:=zlP l h
    have:=zl9 (b:=(l.dropWhile (·≠47)).tail) (zok l);rw [←e] at this;rw [this,if_pos h]
  · rw [zmO h,if_neg h,(nowhile h).1,(nowhile h).2];rfl
theorem zdx {m:Nat} (h:m<10 ^ 60):numV (dg m)=some (m:Int):=by
  unfold numV;rw [if_pos ⟨(JR 60 m (by decide) h).1,(JR 60 m (by decide) h).2,Zs m⟩,zel]
theorem ZO {n:Int} {k:Nat} (hk:k≠45) (h:k<48):k∉tl n:=by
  unfold tl
  split
  · intro z
    rcases List.mem_cons.mp z with z|z
    · exact hk z
    · have:=Zs _ _ z;omega
  · intro z;have:=Zs _ _ z;omega
theorem zeB {n:Int} (h:n.natAbs<10 ^ 60):topV (tl n)=some n:=by
  unfold topV tl
  by_cases z:n<0
  · simp only [if_pos z,List.head?_cons,List.tail_cons,if_true]
    rw [zdx h];show some (-((n.natAbs:Nat):Int))=some n
    congr 1;omega
  · simp only [if_neg z]
    have hd:(dg n.natAbs).head?≠some 45:=fun e=>by
      have:=Zs _ _ (List.mem_of_head? e);omega
    rw [if_neg hd,zdx h]
    congr 1;omega
theorem zoh {a b:Int} (hb:0<b) (hg:Int.gcd a b=1) (ha:a.natAbs<10 ^ 60) (hB:b.natAbs<10 ^ 60):jN (txR a b)=some (a,b):=by
  have fin:∀ l,l=txR a b→(if b=0 then none else if txR (a/(Int.gcd a b:Int)) (b/(Int.gcd a b:Int))=l then some (a/(Int.gcd a b:Int),b/(Int.gcd a b:Int)) else none)=some (a,b):=by
    intro l hl;rw [if_neg (by omega),hg]
    show(if txR (a/1) (b/1)=l then some (a/1,b/1) else none)=_
    rw [Int.ediv_one,Int.ediv_one,if_pos hl.symm]
  unfold jN
  by_cases h1:b=1
  · have e:txR a b=tl a:=by unfold txR;rw [if_pos h1]
    have hn:47∉txR a b:=by rw [e];exact ZO (by decide) (by decide)
    rw [(nowhile hn).1,if_neg hn]
    conv=>lhs;arg 1;rw [e]
    rw [zeB ha];simp only [Option.bind_some];have:=fin (txR a b) rfl;rw [h1] at this ⊢;exact this
  · have e:txR a b=tl a++47::tl b:=by unfold txR;rw [if_neg h1]
    have hin:47∈txR a b:=by rw [e];simp
    have h47:47∉tl a:=ZO (by decide) (by decide)
    have hne:∀ x∈tl a,decide (x≠47)=true:=fun x hx=>by
      rw [decide_eq_true_eq];intro z;rw [z] at hx;exact h47 hx
    have e1:(txR a b).takeWhile (·≠47)=tl a:=by
      rw [e,List.takeWhile_append_of_pos hne];simp
    have e2:((txR a b).dropWhile (·≠47)).tail=tl b:=by
      rw [e,List.dropWhile_append_of_pos hne];simp
    have e3:tl b=dg b.natAbs:=by unfold tl;rw [if_neg (by omega)]
    rw [e1,e2,if_pos hin,zeB ha,e3,zdx hB];simp only [Option.bind_some];have hb':((b.natAbs:Nat):Int)=b:=by omega
    rw [hb'];exact fin _ rfl
theorem zlE (c:Nat):(!(Builtin.Str.occurrences (Str.ofString "0123456789") (st [c]) 0 (Str.ofString "0123456789").length 1).isEmpty)=decide (48≤c∧c≤57):=by
  rw [show st [c]=⟨#[c]⟩ from rfl,StrLaws.found_one]
  have:(Str.ofString "0123456789").cps.toList=[48,49,50,51,52,53,54,55,56,57]:=by decide +kernel
  rw [this]
  congr 1
  simp
  omega
abbrev Spell:=Int×List Int
def dI (ns:List Int):D:=.list (ns.map .int)
def dS (s:Spell):D:=.tuple [.int s.1,dI s.2]
def dSs (l:List Spell):D:=.list (l.map dS)
def okW (ws:List Int):Prop:=(1≤ws.length∧ws.length≤8)∧(∀ w∈ws,0≤w∧w<10 ^ 30)∧ws.sum≠0
def tot (l:List Spell):Int:=(l.map (·.1)).sum
def many (l:List Spell):Nat:=(l.headD (0,[])).2.length
def okS (l:List Spell):Prop:=(1≤l.length∧l.length≤8)∧(∀ s∈l,1≤s.1∧okW s.2∧s.2.length=many l)∧tot l≤60
theorem p30:zbC 10 30:=powB (k:=4) (by unfold Bits;decide) (by decide) (by decide)
theorem zfb:∀ {ws:List Int},(∀ w∈ws,0≤w)→0≤ws.sum
  | [],_=>by simp
  | w :: ws, h => by
    rw [List.sum_cons];have:=zfb (ws:=ws) fun x hx=>h x (List.mem_cons_of_mem _ hx)
    have:=h w List.mem_cons_self
    omega
def gcdL (ws:List Int):Int:=ws.foldl (fun a b=>(Int.gcd a b:Int)) 0
def parts (ws:List Int):Int:=ws.sum/gcdL ws
theorem zep {l:List Spell} (h:∀ s∈l,1≤s.1):0≤tot l:=zfb fun w hw=>by
  obtain⟨s,hs,rfl⟩:=List.mem_map.mp hw;have:=h s hs;omega
abbrev Rat2:=Int×Int
def dQ (r:Rat2):D:=.tuple [.int r.1,.int r.2]
def dP (p:Rat2×Rat2):D:=.tuple [dQ p.1,dQ p.2]
def dPs (l:List (Rat2×Rat2)):D:=.list (l.map dP)
def okQ (r:Rat2):Prop:=0<r.2∧Bits 1200 r.1∧Bits 1200 r.2
def inQ (r:Rat2):Prop:=0≤r.1∧r.1≤10*r.2
def okB (n:Nat) (l:List (Rat2×Rat2)):Prop:=l.length=n∧∀ p∈l,inQ p.1∧inQ p.2
def zhf (n:Nat) (T:Nat) (row:List Int):Prop:=row.length=T∧∀ c∈row,0≤c∧c<(n:Int)
def ZI (c:Nat):Prop:=97≤c∧c≤122
def jw (x:Str):Prop:=∃ l:List Nat,x=st l∧1≤l.length∧l.length≤8∧∀ c∈l,ZI c
abbrev LET:Str:="abcdefghijklmnopqrstuvwxyz"
abbrev FIG:Str:="0123456789"
def isIn (s:Str) (c:Nat):Bool:=!(Builtin.Str.occurrences s (st [c]) 0 s.length 1).isEmpty
theorem zjd {c:Nat} (h:ZI c):isIn LET c=true:=by
  have:∀ k,k<26→isIn LET (97+k)=true:=by decide +kernel
  obtain⟨k,rfl⟩:∃ k,c=97+k:=⟨c - 97,by have:=h.1;omega⟩
  exact this k (by have:=h.2;omega)
theorem zlh {c:Nat} (h:48≤c∧c≤57):isIn FIG c=true:=by
  have:∀ k,k<10→isIn FIG (48+k)=true:=by decide +kernel
  obtain⟨k,rfl⟩:∃ k,c=48+k:=⟨c - 48,by omega⟩
  exact this k (by omega)
def Zx:List (Str×List Str):=[("clan", ["new", "number"]),("weight", ["name", "number"]),("merge", ["name", "name"]),("turns", ["number"]),("bound", ["name", "ratio", "ratio"]),("fix", ["number", "name"]),("bar", ["number", "name"]),("free", ["number"]),("clear", []),("show", []),("least", []),("keep", []),("place", []),("mend", []),("round", [])]
def dSt (l:List Str):D:=.list (l.map .str)
def dTt (l:List Str):D:=.tuple (l.map .str)
theorem zdL {α β : Type} (f:α→β) (k:Str):∀ l:List (Str×α),KTD.datumAt k (l.map fun p=>(p.1,f p.2))=(KTD.datumAt k l).map f
  | []=>rfl
  | p :: r => by
    rw [List.map_cons];unfold KTD.datumAt
    by_cases h:k=p.1
    · simp [h]
    · simp [h];exact zdL f k r
def zcn:List Str→Option (List Str)
  | []=>none
  | w::r=>if w = "row" then some (List.replicate (max 1 r.length) "name") else KTD.datumAt w Zx
theorem zkb {w:Str} {l:List Str} (h:KTD.datumAt w Zx=some l):KTD.datumAt w zgV=some (dTt l):=by
  show KTD.datumAt w (Zx.map fun p=>(p.1,dTt p.2))=_
  rw [zdL,h];rfl
theorem at2' {α : Type} {x y z:α} {xs:List α}:atI (x::y::z::xs) 2=some z:=Jb (j:=2) rfl
theorem zfA {α : Type} (x:α):∀ n,(List.replicate n [x]).flatten=List.replicate n x
  | 0=>rfl
  | n+1=>by rw [List.replicate_succ,List.flatten_cons,zfA x n];rfl
theorem zmk {m:Nat} (h:1≤m):(dg m).head?≠some 48:=by
  induction m using Nat.strongRecOn with
  | ind m ih=>
    by_cases h1:m<10
    · rw [zct h1];simp;omega
    · rw [zeE (by omega)]
      have:=ih (m/10) (by omega) (by omega)
      cases e:dg (m/10) with
      | nil => have := (JR 12 (m / 10)); exfalso; have h2 := Zs (m / 10); have h3 : dg (m / 10) ≠ [] := by
                  intro z;have h4:=zel (m/10);rw [z] at h4
                  simp [NumText.digitsVal] at h4
                  omega
               exact h3 e
      | cons a r=>rw [e] at this;simpa using this
def Val (names:List Str) (k w:Str) (d:D):Prop:=
  (k = "number"∧∃ m:Nat,m<10 ^ 12∧w=st (dg m)∧d=.int m)∨(k = "ratio"∧∃ a b:Int,0<b∧Int.gcd a b=1∧a.natAbs<10 ^ 60∧b.natAbs<10 ^ 60∧w=st (txR a b)∧d=.tuple [.int a,.int b])∨
  (k = "new"∧jw w∧d=.str w)∨(k = "name"∧w∈names∧d=.int (names.idxOf w:Nat))
theorem zce {α : Type} {g:TG3} {tt:TT3} {te:TE3} {f:Bool} (enc out:α→D) (keep:α→Bool) (R:Env3→Prop):∀ (xs:List α),(∀ x∈xs,∀ ρ fa acc (K:Bool→List D→Env3→Prop),R ρ→(∀ fb ρ',R ρ'→K fb (if keep x=true then acc++[out x] else acc) ρ')→
    g f (enc x) ρ fun ρ'=>tt ρ' fun k=>if k=true then te ρ' fun c=>asS c fun fy y=>K (fa&&fy) (acc++[y]) ρ' else K fa acc ρ')→∀ fa acc ρ (Q:Bool→List D→Prop),R ρ→(∀ fb,Q fb (acc++(xs.filter keep).map out))→jm g tt te f (xs.map enc) fa acc ρ Q
  | [],_,fa,acc,ρ,Q,_,q=>by show Q fa acc;simpa using q fa
  | x::xs,s,fa,acc,ρ,Q,hR,q=>s x List.mem_cons_self ρ fa acc (fun fa acc ρ'=>jm g tt te f (xs.map enc) fa acc ρ' Q) hR fun fb ρ' hR'=>
      zce enc out keep R xs (fun y hy=>s y (List.mem_cons_of_mem _ hy)) fb _ ρ' Q hR' (by
        intro fb;have q:=q fb;rw [List.filter_cons] at q;cases hk:keep x with
        | true=>rw [hk] at q;simpa using q
        | false=>rw [hk] at q;simpa using q)
theorem zgi {α : Type} {g:TG3} {tt:TT3} {te:TE3} {f:Bool} (enc out:α→D) (R:Env3→Prop):∀ (xs:List α),(∀ x∈xs,∀ ρ fa acc (K:Bool→List D→Env3→Prop),R ρ→(∀ fb ρ',R ρ'→K fb (acc++[out x]) ρ')→
    g f (enc x) ρ fun ρ'=>tt ρ' fun k=>if k=true then te ρ' fun c=>asS c fun fy y=>K (fa&&fy) (acc++[y]) ρ' else K fa acc ρ')→∀ fa acc ρ (Q:Bool→List D→Prop),R ρ→(∀ fb,Q fb (acc++xs.map out))→jm g tt te f (xs.map enc) fa acc ρ Q
  | [],_,fa,acc,ρ,Q,_,q=>by show Q fa acc;simpa using q fa
  | x::xs,s,fa,acc,ρ,Q,hR,q=>s x List.mem_cons_self ρ fa acc (fun fa acc ρ'=>jm g tt te f (xs.map enc) fa acc ρ' Q) hR fun fb ρ' hR'=>
      zgi enc out R xs (fun y hy=>s y (List.mem_cons_of_mem _ hy)) fb (acc++[out x]) ρ' Q hR' (fun fb=>by rw [List.append_assoc];exact q fb)
theorem zcm {α : Type} {p q:Prop} [Decidable p] [Decidable q] {a b:α} (h:p↔q):(if p then a else b)=if q then a else b:=by
  by_cases hp:p
  · rw [if_pos hp,if_pos (h.mp hp)]
  · rw [if_neg hp,if_neg fun z=>hp (h.mpr z)]
theorem zgJ {α : Type} (x:α) (r:List α):cut (x::r) (some 1) none=r:=by
  unfold cut;have e1:HT.sIx (x::r).length 0 (some 1)=1:=by simp [HT.sIx]
  have e2:HT.sIx (x::r).length (x::r).length none=(x::r).length:=by simp [HT.sIx]
  rw [e1,e2]
  simp
theorem JI:∀ {l:List Nat} {k:Nat},(∀ x∈l,x≤k)→l.sum≤l.length*k
  | [],_,_=>by simp
  | a :: r, k, h => by
    have h1:=h a List.mem_cons_self;have h2:=JI (l:=r) (k:=k) fun x hx=>h x (List.mem_cons_of_mem _ hx)
    rw [List.sum_cons,List.length_cons,Nat.succ_mul];omega
theorem zcj {x:Str} {l:List Str}:(l.any fun y=>y==x)=decide (x∈l):=by
  rw [Bool.eq_iff_iff,List.any_eq_true,decide_eq_true_eq]
  constructor
  · rintro⟨y,h1,h2⟩;rw [beq_iff_eq] at h2;rw [←h2];exact h1
  · intro h;exact⟨x,h,beq_self_eq_true x⟩
structure St where
  names:List Str
  ws:List Int
  lims:List (Rat2×Rat2)
  spells:List Spell
  rules:List (Bool×Int×Nat)
  row:Option (List Nat)
def dRD (r:Bool×Int×Nat):D:=.tuple [.str (if r.1=true then "fixed" else "barred"),.int r.2.1,.int r.2.2]
def dN (l:List Nat):D:=.list (l.map fun(c:Nat)=>.int c)
def dRow:Option (List Nat)→D
  | none=>.none
  | some l=>dN l
def jK (S:St) (dx a l1 l2 l3 l5:Addr):Ob:=⟨some dx,a,[.ow l1 (S.names.map .str),.ow l2 (S.ws.map .int),.ow l3 (S.lims.map dP),.sh (dSs S.spells),.ow l5 (S.rules.map dRD),.sh (dRow S.row)]⟩
def zA (o:Ob) (S:St):Prop:=∃ dx a l1 l2 l3 l5,o=jK S dx a l1 l2 l3 l5
structure Few (S:St):Prop where
  n:S.names.length≤8
  w:S.ws.length=S.names.length
  l:S.lims.length=S.names.length
  s:S.spells.length≤8
  r:S.rules.length≤100
def St.clan (S:St) (x:Str) (w:Int):St:=⟨S.names++[x],S.ws++[w],S.lims++[((1,1),(1,1))],S.spells.map fun s=>(s.1,s.2++[0]),S.rules,S.row⟩
def St.weight (S:St) (i:Nat) (w:Int):St:={ S with ws:=S.ws.set i w }
def St.merge (S:St) (i j:Nat) (a b:Int):St:={ S with ws:=(S.ws.set i (a+b)).set j 0 }
def St.turns (S:St) (n:Int):St:={ S with spells:=S.spells++[(n,S.ws)],row:=none }
def St.bound (S:St) (i:Nat) (p:Rat2×Rat2):St:={ S with lims:=S.lims.set i p }
def St.rule (S:St) (r:Bool×Int×Nat):St:={ S with rules:=S.rules++[r] }
def St.free (S:St) (t:Int):St:={ S with rules:=S.rules.filter fun r=>decide (r.2.1≠t) }
def St.setRow (S:St) (r:List Nat):St:={ S with row:=some r }
def St.clear (S:St):St:={ S with spells:=[],rules:=[],row:=none }
def OK:D:=.str "ok"
theorem zcP {α : Type} (f:α→D) (h:∀ x,nol (f x)=true):∀ l:List α,nols (l.map f)=true
  | []=>by simp [nols]
  | x::r=>by rw [List.map_cons];unfold nols;rw [h x,zcP f h r];rfl
theorem ziX (r:Bool×Int×Nat):nol (dRD r)=true:=by simp [dRD,nol,nols]
theorem jb {α : Type} {l:List α} {f:α→D} {i:Nat} {x:α} (h:l[i]?=some x):atI (l.map f) (i:Int)=some (f x):=Jb (by rw [List.getElem?_map,h];rfl)
def jp (S:St):List D:=[dSt S.names,dI S.ws,dPs S.lims,dSs S.spells,.list (S.rules.map dRD),dRow S.row]
def zv (S:St) (i:Nat):Str:=S.names.getD i ""
def jj (S:St) (i:Nat):Str:=Txt.join " " [zv S i,st (tl (S.ws.getD i 0)),st (txR (S.lims.getD i ((1,1),(1,1))).1.1 (S.lims.getD i ((1,1),(1,1))).1.2),st (txR (S.lims.getD i ((1,1),(1,1))).2.1 (S.lims.getD i ((1,1),(1,1))).2.2)]
def jo (s:Spell):Str:="turns " ++ Txt.join " " ((s.1::s.2).map fun n=>st (tl n))
def fixT (b:Bool):Str:=if b=true then "fix" else "bar"
def j5 (S:St) (r:Bool×Int×Nat):Str:=Txt.join " " [fixT r.1,st (tl r.2.1),zv S r.2.2]
def Zv (S:St) (l:List Nat):Str:=Txt.join " " (l.map (zv S))
def rowT (S:St):List Str:=match S.row with
  | none=>[]
  | some l=>["row " ++ Zv S l]
def jv (S:St):List Str:=(List.range S.names.length).map (jj S)++S.spells.map jo++S.rules.map (j5 S)++rowT S
def Zw (S:St):Str:=if jv S=[] then "none" else Txt.join ", " (jv S)
structure Good (S:St):Prop extends Few S where
  nm:∀ x∈S.names,jw x
  wb:∀ w∈S.ws,0≤w∧Bits 150 w
  lb:∀ p∈S.lims,okQ p.1∧okQ p.2∧inQ p.1∧inQ p.2∧Bits 20 p.1.1∧Bits 20 p.1.2∧Bits 20 p.2.1∧Bits 20 p.2.2
  sb:∀ s∈S.spells,s.2.length=S.names.length∧Bits 20 s.1∧(∀ w∈s.2,Bits 150 w)
  rb:∀ r∈S.rules,Bits 20 r.2.1∧r.2.2<S.names.length
  ob:∀ l,S.row=some l→l.length≤60∧∀ c∈l,c<S.names.length
theorem jy (a b:Str):(a++b).length=a.length+b.length:=by
  rw [←jL a,←jL b,Js,zp,zp,zp,List.length_append]
theorem ZH (sep:Str) (l:List Str):(Txt.join sep l).length≤(l.map (·.length)).sum+l.length*sep.length:=by
  show(Builtin.Str.glued sep l).length≤_
  rw [StrLaws.glued_eq_join];exact StrLaws.join_length_le sep l
theorem JO {n:Int} (h:Bits 20 n):(st (tl n)).length≤8:=by rw [zp];exact Ja (k:=7) (by decide) (Nat.lt_of_lt_of_le h (by decide))
theorem ZS {n:Int} (h:Bits 150 n):(st (tl n)).length≤47:=by rw [zp];exact Ja (k:=46) (by decide) (Nat.lt_of_lt_of_le h (by decide +kernel))
theorem Zz {a b:Int} (h:Bits 20 a) (h':Bits 20 b):(st (txR a b)).length≤17:=by
  have h1:=JO h;have h2:=JO h';rw [zp] at h1 h2 ⊢;unfold txR
  split
  · omega
  · rw [List.length_append,List.length_cons];omega
theorem zoc {x:Str} (h:jw x):x.length≤8:=by obtain⟨l,rfl,_,h2,_⟩:=h;rw [zp];exact h2
theorem jQ {S:St} {i:Nat} (h:i<S.names.length):S.names[i]?=some (zv S i):=by unfold zv;rw [List.getD_eq_getElem?_getD,List.getElem?_eq_getElem h];rfl
theorem JF {S:St} (g:Good S) {i:Nat} (h:i<S.names.length):(zv S i).length≤8:=zoc (g.nm _ (List.mem_of_getElem? (jQ h)))
theorem zbQ {S:St} (g:Good S) {i:Nat} (h:i<S.names.length):S.ws[i]?=some (S.ws.getD i 0):=by rw [List.getD_eq_getElem?_getD,List.getElem?_eq_getElem (by rw [g.w];exact h)];rfl
theorem zgw {S:St} (g:Good S) {i:Nat} (h:i<S.names.length):S.lims[i]?=some (S.lims.getD i ((1,1),(1,1))):=by rw [List.getD_eq_getElem?_getD,List.getElem?_eq_getElem (by rw [g.l];exact h)];rfl
theorem Jd:(Str.ofString " ").length=1:=by decide
def WORs:List (Str×Str):=[("fixed", "fix"),("barred", "bar")]
theorem zmr (b:Bool):KTD.datumAt (if b=true then("fixed" : Str) else "barred") zg8=some (.str (fixT b)):=by
  show KTD.datumAt _ (WORs.map fun p=>(p.1,PyData.str p.2))=_
  rw [zdL,show KTD.datumAt (if b=true then("fixed" : Str) else "barred") WORs=some (fixT b) by cases b<;>decide +kernel];rfl
theorem zdo (b:Bool):(fixT b).length=3:=by cases b<;>decide
theorem zdl {S:St} (g:Good S) {s:Spell} (h:s∈S.spells):(Txt.join " " ((s.1::s.2).map fun n=>st (tl n))).length≤600:=by
  obtain⟨h1,h2,h3⟩:=g.sb s h;have hn:=g.n;refine Nat.le_trans (ZH _ _) ?_;have:=JI (l:=((s.1::s.2).map fun n=>st (tl n)).map fun x=>x.length) (k:=47) (by
    intro y hy;rw [List.map_map] at hy;obtain⟨n,hn,rfl⟩:=List.mem_map.mp hy;show(st (tl n)).length≤47
    rcases List.mem_cons.mp hn with rfl|hn
    · have:=JO h2;omega
    · exact ZS (h3 n hn))
  simp only [List.length_map,List.length_cons] at this ⊢;rw [Jd]
  omega
theorem zm5 {S:St} (g:Good S) {r:Bool×Int×Nat} (h1:Bits 20 r.2.1) (h2:r.2.2<S.names.length):(j5 S r).length≤30:=by
  have a:=JO h1;have b:=JF g h2;have c:=zdo r.1;refine Nat.le_trans (ZH _ _) ?_;simp only [List.map_cons,List.map_nil,List.sum_cons,List.sum_nil,List.length_cons,List.length_nil,Jd]
  omega
theorem zaq {S:St} (g:Good S) {l:List Nat} (h1:l.length≤60) (h2:∀ c∈l,c<S.names.length):((l.map (zv S)).map (·.length)).sum≤480∧(Zv S l).length≤600:=by
  have:=JI (l:=(l.map (zv S)).map fun x=>x.length) (k:=8) (by
    intro y hy;rw [List.map_map] at hy;obtain⟨n,hn,rfl⟩:=List.mem_map.mp hy;exact JF g (h2 n hn))
  simp only [List.length_map] at this;refine⟨by omega,Nat.le_trans (ZH _ _) ?_⟩
  rw [List.length_map,Jd]
  omega
theorem zoM {S:St} (g:Good S) {i:Nat} (h:i<S.names.length):(jj S i).length≤200:=by
  have h0:=JF g h;have w1:S.ws[i]?=some (S.ws.getD i 0):=by rw [List.getD_eq_getElem?_getD,List.getElem?_eq_getElem (by rw [g.w];exact h)];rfl
  have l1:S.lims[i]?=some (S.lims.getD i ((1,1),(1,1))):=by rw [List.getD_eq_getElem?_getD,List.getElem?_eq_getElem (by rw [g.l];exact h)];rfl
  have h1:=ZS (g.wb _ (List.mem_of_getElem? w1)).2;obtain⟨_,_,_,_,b1,b2,b3,b4⟩:=g.lb _ (List.mem_of_getElem? l1);have h2:=Zz b1 b2;have h3:=Zz b3 b4;refine Nat.le_trans (ZH _ _) ?_;have e:(Str.ofString " ").length=1:=by decide
  simp only [List.map_cons,List.map_nil,List.sum_cons,List.sum_nil,List.length_cons,List.length_nil,e]
  omega
theorem zjF {S:St} (g:Good S):∀ x∈jv S,x.length≤700:=by
  intro x hx;unfold jv at hx
  rcases List.mem_append.mp hx with hx|hx
  · rcases List.mem_append.mp hx with hx|hx
    · rcases List.mem_append.mp hx with hx|hx
      · obtain⟨i,hi,rfl⟩:=List.mem_map.mp hx
        have:=zoM g (List.mem_range.mp hi);omega
      · obtain⟨s,hs,rfl⟩:=List.mem_map.mp hx
        have:=zdl g hs;unfold jo;rw [jy,show(Str.ofString "turns ").length=6 by decide];omega
    · obtain⟨r,hr,rfl⟩:=List.mem_map.mp hx
      obtain⟨h1,h2⟩:=g.rb r hr;have:=zm5 g h1 h2;omega
  · unfold rowT at hx
    cases e:S.row with
    | none=>rw [e] at hx;cases hx
    | some l=>
      rw [e] at hx;obtain⟨h1,h2⟩:=g.ob l e;have:=(zaq g h1 h2).2;rw [List.mem_singleton.mp hx,jy,show(Str.ofString "row ").length=4 by decide];omega
theorem zn1 {S:St} (g:Good S):(jv S).length≤117:=by
  have h1:=g.n;have h2:=g.s;have h3:=g.r;have h4:(rowT S).length≤1:=by unfold rowT;split<;>simp
  unfold jv;simp only [List.length_append,List.length_map,List.length_range]
  omega
theorem zbH {S:St} (g:Good S) {Q:Bool→D→Prop} {X:List Str} (e:X=jv S) (q:Q true (.str (Zw S))):if(((X.map PyData.str).length:Nat):Int)=0 then Q true (.str "none") else ∃ x,jr (X.map PyData.str)=some x∧(Str.ofString ", ").length≤16∧(x.map fun x=>x.length).sum+x.length≤1048576∧Q true (.str (Txt.join ", " x)):=by
  subst e;unfold Zw at q
  by_cases h:jv S=[]
  · rw [if_pos h] at q;rw [if_pos (by rw [h];rfl)];exact q
  · rw [if_neg h] at q
    rw [if_neg (by rw [List.length_map];intro z;exact h (List.length_eq_zero_iff.mp (by omega)))]
    refine⟨_,jP _,by decide,?_,q⟩
    have h1:=JI (l:=(jv S).map fun x=>x.length) (k:=700) (by
      intro y hy;obtain⟨x,hx,rfl⟩:=List.mem_map.mp hy;exact zjF g x hx)
    have h2:=zn1 g;rw [List.length_map] at h1
    omega
theorem zhJ {δ : Type} {k:Str} {d:δ}:∀ {l:List (Str×δ)},KTD.datumAt k l=some d→(k,d)∈l
  | [],h=>by cases h
  | p :: r, h => by
    unfold KTD.datumAt at h
    by_cases e:k=p.1
    · simp [e] at h;rw [e,←h];exact List.mem_cons_self
    · simp [e] at h;exact List.mem_cons_of_mem _ (zhJ h)
def Told (S:St) (w:Str) (vals:List D) (S':St) (ans:Str):Prop:=
  (w = "clan"∧∃ (x:Str) (n:Int),vals=[.str x,.int n]∧x∉S.names∧S.names.length<8∧S'=S.clan x n∧ans = "ok")∨
  (w = "weight"∧∃ (i:Nat) (n:Int),vals=[.int i,.int n]∧i<S.names.length∧S'=S.weight i n∧ans = "ok")∨
  (w = "merge"∧∃ (i j:Nat) (a b:Int),vals=[.int i,.int j]∧S.ws[i]?=some a∧S.ws[j]?=some b∧i≠j∧S'=S.merge i j a b∧ans = "ok")∨
  (w = "turns"∧∃ n:Int,vals=[.int n]∧okS (S.spells++[(n,S.ws)])∧S'=S.turns n∧ans = "ok")∨
  (w = "bound"∧∃ (i:Nat) (p:Rat2×Rat2),vals=[.int i,dQ p.1,dQ p.2]∧i<S.names.length∧okQ p.1∧okQ p.2∧okB 1 [p]∧S'=S.bound i p∧ans = "ok")∨
  (w = "fix"∧∃ (t:Int) (i:Nat),vals=[.int t,.int i]∧1≤t∧t≤tot S.spells∧S'=S.rule (true,t,i)∧ans = "ok")∨
  (w = "bar"∧∃ (t:Int) (i:Nat),vals=[.int t,.int i]∧1≤t∧t≤tot S.spells∧S'=S.rule (false,t,i)∧ans = "ok")∨
  (w = "free"∧∃ t:Int,vals=[.int t]∧1≤t∧t≤tot S.spells∧S'=S.free t∧ans = "ok")∨
  (w = "row"∧∃ l:List Nat,vals=l.map (fun(c:Nat)=>PyData.int c)∧((l.length:Nat):Int)=tot S.spells∧(∀ c∈l,c<S.names.length)∧S'=S.setRow l∧ans = "ok")∨
  (w = "clear"∧vals=[]∧S'=S.clear∧ans = "ok")∨
  (w = "show"∧vals=[]∧S'=S∧ans=Zw S)
structure Line (S:St) (ws:List Str) (S':St) (ans:Str):Prop where
  z:ws.length≤100
  f:∃ fm vals,zcn ws=some fm∧ws.length=fm.length+1∧(∀ a b r,ws=("merge" : Str)::a::b::r→a≠b)∧(ws.head?=some ("merge" : Str)→3≤ws.length)∧vals.length=fm.length∧(∀ (i:Nat) (k w:Str) (d:D),fm[i]?=some k→ws[i+1]?=some w→vals[i]?=some d→Val S.names k w d)∧∃ w r,ws=w::r∧Told S w vals S' ans
def zX (n m:Int):Prop:=0≤n∧n<m
def zcF:List Str:=["clan", "weight", "merge", "turns", "bound", "fix", "bar", "free", "row", "clear", "show", "least", "keep", "place", "mend", "round"]
def Jz:List Str:=["q", "qq", "qqq", "z", "zz", "zzz", "y", "yy", "yyy"]
theorem zf4 {l:List Str} (h:∀ x∈l,1≤x.cps.toList.length∧x.cps.toList.length≤8∧x.cps.toList.all (fun c=>decide (97≤c∧c≤122))=true):∀ x∈l,jw x:=by
  intro x hx;obtain⟨h1,h2,h3⟩:=h x hx;exact⟨_,(jL x).symm,h1,h2,fun c hc=>by simpa [ZI] using List.all_eq_true.mp h3 c hc⟩
theorem spare {ns:List Str} (h:ns.length≤8):∃ x r,Jz.filter (fun x=>decide (x∉ns))=x::r∧jw x∧x∉ns:=by
  cases e:Jz.filter (fun x=>decide (x∉ns)) with
  | nil=>
    exfalso
    have hall:∀ x∈Jz,x∈ns:=fun x hx=>by
      have:=List.filter_eq_nil_iff.mp e x hx
      simpa using this
    have nd:Jz.Nodup:=by decide +kernel
    have:=nd.length_le_of_subset hall;have:Jz.length=9:=rfl
    omega
  | cons x r=>
    have hx:x∈Jz.filter (fun x=>decide (x∉ns)):=by rw [e];exact List.mem_cons_self
    obtain⟨h1,h2⟩:=List.mem_filter.mp hx;exact⟨x,r,rfl,zf4 (by decide +kernel) x h1,by simpa using h2⟩
theorem zhV {lo hi:Option Int} {i j n:Nat} (h1:lo=none∧i=0∨lo=some (i:Int)) (h2:hi=none∧j=n∨hi=some (j:Int)) (hij:i≤j) (hj:j≤n):Builtin.Str.strSliceIndices lo hi 1 n=(List.range (j - i)).map (· + i):=by
  have key:∀ a b:Int,a=i→b=j→sliceRange a b 1=(List.range (j - i)).map (· + i):=by
    rintro a b rfl rfl
    unfold sliceRange;simp only [show(1:Int) > 0 by decide,if_true]
    have e3:(if(i:Int)<(j:Int) then((j:Int) - i+1 - 1)/1 else 0).toNat=j - i:=by
      split
      · rw [Int.ediv_one];omega
      · omega
    rw [e3]
    apply List.map_congr_left
    intro k _
    omega
  unfold Builtin.Str.strSliceIndices;refine key _ _ ?_ ?_
  · rcases h1 with ⟨rfl,rfl⟩|rfl
    · rfl
    · simp only [show(1:Int) > 0 by decide,if_true];rw [if_neg (by omega)];omega
  · rcases h2 with ⟨rfl,rfl⟩|rfl
    · rfl
    · simp only [show(1:Int) > 0 by decide,if_true];rw [if_neg (by omega)];omega
theorem ziS (l:List Nat):∀ (m i:Nat),((List.range m).map (· + i)).filterMap (l[·]?)=(l.drop i).take m:=by
  intro m
  induction m with
  | zero=>intro i;simp
  | succ m ih=>
    intro i;rw [List.range_succ,List.map_append,List.filterMap_append,ih i]
    by_cases h:m+i<l.length
    · have e:(l.drop i).take (m+1)=(l.drop i).take m++[l[m+i]]:=by
        rw [List.take_succ_eq_append_getElem (by rw [List.length_drop];omega)]
        congr 2
        rw [List.getElem_drop]
        congr 1;omega
      rw [e]
      simp [List.getElem?_eq_getElem h]
    · have e:(l.drop i).take (m+1)=(l.drop i).take m:=by
        rw [List.take_of_length_le (by rw [List.length_drop];omega),List.take_of_length_le (by rw [List.length_drop];omega)]
      rw [e]
      simp [List.getElem?_eq_none (show l.length≤m+i by omega)]
theorem zf6 {l:List Nat} {lo hi:Option Int} {i j:Nat} (h1:lo=none∧i=0∨lo=some (i:Int)) (h2:hi=none∧j=l.length∨hi=some (j:Int)) (hij:i≤j) (hj:j≤l.length):Txt.slice (st l) lo hi=st ((l.drop i).take (j - i)):=by
  unfold Txt.slice;rw [zp,zhV h1 h2 hij hj];have ep:((List.range (j - i)).map (· + i)).filterMap ((st l).cps[·]?)=(l.drop i).take (j - i):=by
    rw [←ziS l (j - i) i]
    congr 1
    funext k
    simp [st]
  rw [ep]
  split
  · rename_i hc
    simp at hc
    have:i=0∧j=l.length:=by omega
    obtain⟨rfl,rfl⟩:=this;rw [List.drop_zero,Nat.sub_zero,List.take_length]
  · rfl
theorem zeF {l:List Nat} {n:Int} (h:0≤n) (h':n≤l.length):Txt.slice (st l) none (some n)=st (l.take n.toNat):=by
  rw [zf6 (l:=l) (lo:=none) (hi:=some n) (i:=0) (j:=n.toNat) (.inl ⟨rfl,rfl⟩) (.inr (by rw [Int.toNat_of_nonneg h])) (by omega) (by omega)]
  rfl
theorem ziF {l:List Nat} {n:Int} (h:0≤n) (h':n≤l.length):Txt.slice (st l) (some n) none=st (l.drop n.toNat):=by
  rw [zf6 (l:=l) (lo:=some n) (hi:=none) (i:=n.toNat) (j:=l.length) (.inr (by rw [Int.toNat_of_nonneg h])) (.inl ⟨rfl,rfl⟩) (by omega) (by omega)]
  rw [List.take_of_length_le (by rw [List.length_drop];omega)]
theorem zgj {n:Int} (h:0≤n) (h':n<26):∃ c,ZI c∧(if LET.length≤sizeLine then Option.map (fun c=>PyData.str { cps:=#[c] }) (atI LET.cps.toList n) else none)=some (PyData.str (st [c])):=by
  obtain⟨k,rfl⟩:=Int.eq_ofNat_of_zero_le h;have hk:k<26:=by omega
  have e:LET.cps.toList[k]?=some (97+k):=by
    have:∀ k,k<26→LET.cps.toList[k]?=some (97+k):=by decide +kernel
    exact this k hk
  refine⟨97+k,⟨by omega,by omega⟩,?_⟩
  rw [if_pos (by decide +kernel),Jb e]
  rfl
theorem zgI {l:List Nat} (h1:1≤l.length) (h2:l.length≤8) (h3:∀ c∈l,ZI c):jw (st l):=⟨l,rfl,h1,h2,h3⟩
theorem zlz:∀ x∈zcF,jw x:=zf4 (by decide +kernel)
theorem zkT {n m:Int} {Q:Bool→D→Prop} (hm:0≤m) (hn:0≤n) (hn':n<60) (hm':m<10*(1+n)+1) (q:∀ a b:Int,okQ (a,b)→inQ (a,b)→Int.gcd a b=1→Bits 20 a→Bits 20 b→Q true (.tuple [.int a,.int b])):Q true (.tuple [.int (m/Int.gcd m (1+n)),.int ((1+n)/Int.gcd m (1+n))]):=by
  have hb:0<1+n:=by omega
  have hg:0<Int.gcd m (1+n):=Int.gcd_pos_of_ne_zero_right _ (by omega)
  obtain⟨x,hx⟩:∃ x,m=x*Int.gcd m (1+n):=by obtain⟨x,hx⟩:=Int.gcd_dvd_left m (1+n);exact⟨x,by rw [Int.mul_comm];exact hx⟩
  obtain⟨y,hy⟩:∃ y,1+n=y*Int.gcd m (1+n):=by obtain⟨x,hx⟩:=Int.gcd_dvd_right m (1+n);exact⟨x,by rw [Int.mul_comm];exact hx⟩
  have hone:=Int.gcd_ediv_gcd_ediv_gcd hg;generalize Int.gcd m (1+n)=g at *;have hgz:(0:Int)<(g:Int):=by omega
  have ex:m/(g:Int)=x:=by rw [hx,Int.mul_ediv_cancel _ (by omega)]
  have ey:(1+n)/(g:Int)=y:=by rw [hy,Int.mul_ediv_cancel _ (by omega)]
  rw [ex,ey] at hone ⊢;have y0:0<y:=by
    rcases Int.lt_or_le 0 y with h|h
    · exact h
    · have:=Int.mul_le_mul_of_nonneg_right h (Int.le_of_lt hgz);omega
  have x0:0≤x:=by
    rcases Int.lt_or_le x 0 with h|h
    · have:=Int.mul_lt_mul_of_pos_right h hgz;omega
    · exact h
  have y1:y≤1+n:=by
    have:=Int.mul_le_mul_of_nonneg_left (show(1:Int)≤g by omega) (Int.le_of_lt y0);omega
  have xy:x≤10*y:=by
    have h1:x*g≤(10*y)*g:=by rw [Int.mul_assoc,←hx,←hy];omega
    exact Int.le_of_mul_le_mul_right h1 hgz
  have bx:Bits 20 x:=by unfold Bits;omega
  have b_y:Bits 20 y:=by unfold Bits;omega
  exact q x y ⟨y0,bx.mono (by decide),b_y.mono (by decide)⟩ ⟨x0,xy⟩ hone bx b_y
def dLm (p:Rat2×Rat2):D:=.list [dQ p.1,dQ p.2]
def mS (s:Spell):D×List D:=(.int s.1,s.2.map .int)
def dSM (s:Spell):D:=.list [.int s.1,.list (s.2.map .int)]
def dRM (S:St) (r:Bool×Int×Nat):D:=.tuple [.str (fixT r.1),.int r.2.1,.str (zv S r.2.2)]
def rowD (S:St):D:=match S.row with
  | none=>.none
  | some l=>.list ((l.map (zv S)).map .str)
def jt (S:St):List D:=[dSt S.names,dI S.ws,.list (S.lims.map dLm),.list (S.spells.map dSM),.list (S.rules.map (dRM S)),rowD S]
def rowF (S:St) (fl:Fl):Prop:=match S.row with
  | none=>fl=.sh .none
  | some l=>∃ a,fl=.ow a ((l.map (zv S)).map .str)
def modO (S:St) (a l1 l2 l3 l4 l5:Addr) (qs:List (Addr×Addr)) (fl:Fl):Ob:=⟨none,a,[.ow l1 (S.names.map .str),.ow l2 (S.ws.map .int),.ow l3 (S.lims.map dLm),.tp l4 qs (S.spells.map mS),.ow l5 (S.rules.map (dRM S)),fl]⟩
def zT (o:Ob) (S:St):Prop:=∃ a l1 l2 l3 l4 l5 qs fl,o=modO S a l1 l2 l3 l4 l5 qs fl∧rowF S fl
theorem Z3 {S:St} {fl:Fl} (h:rowF S fl):fl.d=rowD S:=by
  unfold rowF at h;unfold rowD;cases e:S.row with
  | none=>rw [e] at h;subst h;rfl
  | some l=>rw [e] at h;obtain⟨a,rfl⟩:=h;rfl
theorem ZR (l:List Spell):tpD (l.map mS)=l.map dSM:=by
  unfold tpD;rw [List.map_map];rfl
theorem zhF {S:St} {a l1 l2 l3 l4 l5:Addr} {qs:List (Addr×Addr)} {fl:Fl} (h:rowF S fl):(modO S a l1 l2 l3 l4 l5 qs fl).fs.map Fl.d=jt S:=by
  show [_,_,_,PyData.list (tpD (S.spells.map mS)),_,fl.d]=_
  rw [ZR,Z3 h];rfl
theorem zgU {a b:Str} (h:a.cps.toList=b.cps.toList):a=b:=by rw [←jL a,←jL b,h]
theorem app_list (a b:Str):(a++b).cps.toList=a.cps.toList++b.cps.toList:=by
  show(a.cps++b.cps).toList=_
  exact Array.toList_append
theorem Zu (a b c:Str):a++b++c=a++(b++c):=zgU (by rw [app_list,app_list,app_list,app_list,List.append_assoc])
theorem zdY (a:Str):a++(Str.ofString "")=a:=zgU (by rw [app_list];show _++[]=_;exact List.append_nil _)
theorem zhr (sep x:Str):Txt.join sep [x]=x:=rfl
theorem zbv (sep x y:Str) (r:List Str):Txt.join sep (x::y::r)=x++sep++Txt.join sep (y::r):=by
  show Builtin.Str.glued _ _=_++Builtin.Str.glued _ _
  rw [StrLaws.glued_eq_join,StrLaws.glued_eq_join]
  rfl
theorem join_none (x:Str):∀ r:List Str,Txt.join "" (x::r)=x++Txt.join "" r
  | []=>by rw [zhr];show _=x++(Str.ofString "");rw [zdY]
  | y::r=>by rw [zbv,zdY]
theorem zey (sep x:Str):∀ l:List Str,Txt.join sep (x::l)=x++Txt.join "" (l.map fun y=>sep++y)
  | []=>by show x=x++(Str.ofString "");rw [zdY]
  | y::r=>by rw [zbv,zey sep y r,List.map_cons,join_none,Zu,Zu]
theorem zji (n:Int) (ws:List Int):Str.ofString "turns " ++ st (tl n)++Txt.join "" (ws.map fun w=>Str.ofString " " ++ st (tl w))=jo (n,ws):=by
  unfold jo;show _=_++Txt.join _ (st (tl n)::ws.map _);rw [zey,List.map_map,Zu];rfl
theorem zoA (a b c:Str):a++Str.ofString " " ++ b++Str.ofString " " ++ c=Txt.join " " [a,b,c]:=by
  rw [zbv,zbv,zhr,Zu,Zu];simp only [Zu]
structure Inv (k:Nat) (S:St):Prop where
  n:S.names.length≤8
  nd:S.names.Nodup
  nm:∀ x∈S.names,jw x
  w:S.ws.length=S.names.length
  wb:∀ w∈S.ws,0≤w∧w<10 ^ 12*2 ^ k
  l:S.lims.length=S.names.length
  lb:∀ p∈S.lims,okQ p.1∧okQ p.2∧inQ p.1∧inQ p.2∧Bits 20 p.1.1∧Bits 20 p.1.2∧Bits 20 p.2.1∧Bits 20 p.2.2
  s:S.spells.length≤8
  sb:∀ s∈S.spells,s.2.length=S.names.length∧1≤s.1∧(∀ w∈s.2,0≤w∧w<10 ^ 12*2 ^ k)∧s.2.sum≠0
  t:tot S.spells≤60
  r:S.rules.length≤k
  rb:∀ r∈S.rules,1≤r.2.1∧r.2.1≤60∧r.2.2<S.names.length
  ob:∀ l,S.row=some l→l.length≤60∧∀ c∈l,c<S.names.length
theorem zmm {l:List Spell} (h:∀ s∈l,1≤s.1) {s:Spell} (hs:s∈l):s.1≤tot l:=by
  induction l with
  | nil=>cases hs
  | cons a r ih=>
    have h0:=zep fun s m=>h s (List.mem_cons_of_mem a m)
    have h1:=h a List.mem_cons_self;have e:tot (a::r)=a.1+tot r:=by unfold tot;rw [List.map_cons,List.sum_cons]
    rw [e]
    rcases List.mem_cons.mp hs with rfl|hs
    · omega
    · have:=ih (fun s m=>h s (List.mem_cons_of_mem a m)) hs;omega
theorem zfq (l:List Spell) (s:Spell):tot (l++[s])=tot l+s.1:=by unfold tot;rw [List.map_append,List.sum_append];simp
theorem zbB {k m:Nat} (h:k≤m):(10:Int) ^ 12*2 ^ k≤10 ^ 12*2 ^ m:=Int.mul_le_mul_of_nonneg_left (by
  have:=Nat.pow_le_pow_right (n:=2) (by decide) h
  have e:∀ j:Nat,((2:Int) ^ j)=((2 ^ j:Nat):Int):=fun j=>by rw [Int.natCast_pow];rfl
  rw [e,e];omega) (by decide)
theorem Inv.bits {k:Nat} (hk:k≤50) {w:Int} (h:0≤w∧w<10 ^ 12*2 ^ k):Bits 150 w:=by
  have h2:=zbB hk;have h3:(10:Int) ^ 12*2 ^ 50<2 ^ 150:=by decide +kernel
  have h4:w<2 ^ 150:=by have:=h.2;omega
  have h5:((w.natAbs:Nat):Int)=w:=by have:=h.1;omega
  unfold Bits;have e:((2:Int) ^ 150)=((2 ^ 150:Nat):Int):=by decide +kernel
  rw [e] at h4
  omega
theorem Inv.good {k:Nat} {S:St} (I:Inv k S) (hk:k≤50):Good S where
  n:=I.n
  w:=I.w
  l:=I.l
  s:=I.s
  r:=by have:=I.r;omega
  nm:=I.nm
  wb:=fun w h=>⟨(I.wb w h).1,Inv.bits hk (I.wb w h)⟩
  lb:=I.lb
  sb:=fun s h=>by
    obtain⟨h1,h2,h3,h4⟩:=I.sb s h;have:=zmm (fun s m=>(I.sb s m).2.1) h
    have:=I.t;exact⟨h1,by unfold Bits;omega,fun w hw=>Inv.bits hk (h3 w hw)⟩
  rb:=fun r h=>by
    obtain⟨h1,h2,h3⟩:=I.rb r h;exact⟨by unfold Bits;omega,h3⟩
  ob:=I.ob
theorem Inv.up {k:Nat} {S:St} (I:Inv k S):Inv (k+1) S:=
  have p:=zbB (show k≤k+1 by omega)
  { I with
    wb:=fun w h=>⟨(I.wb w h).1,by have:=(I.wb w h).2;omega⟩
    sb:=fun s h=>⟨(I.sb s h).1,(I.sb s h).2.1,fun w hw=>⟨((I.sb s h).2.2.1 w hw).1,by have:=((I.sb s h).2.2.1 w hw).2;omega⟩,(I.sb s h).2.2.2⟩
    r:=by have:=I.r;omega }
inductive Vals (ns:List Str):List Str→List Str→List D→Prop
  | nil:Vals ns [] [] []
  | cons {k w d ks ws ds}:Val ns k w d→Vals ns ks ws ds→Vals ns (k::ks) (w::ws) (d::ds)
theorem Vals.lens {ns ks ws ds} (h:Vals ns ks ws ds):ws.length=ks.length∧ds.length=ks.length:=by
  induction h with
  | nil=>exact⟨rfl,rfl⟩
  | cons _ _ ih=>exact⟨by rw [List.length_cons,List.length_cons,ih.1],by rw [List.length_cons,List.length_cons,ih.2]⟩
theorem Vals.at {ns ks ws ds} (h:Vals ns ks ws ds):∀ (i:Nat) (k w:Str) (d:D),ks[i]?=some k→ws[i]?=some w→ds[i]?=some d→Val ns k w d:=by
  induction h with
  | nil=>intro i k w d h;cases h
  | cons v _ ih=>
    intro i k w d h1 h2 h3;cases i with
    | zero=>cases h1;cases h2;cases h3;exact v
    | succ i=>rw [List.getElem?_cons_succ] at h1 h2 h3;exact ih i k w d h1 h2 h3
def Jy (w:Str):Prop:=∃ l,w=st l∧1≤l.length∧l.length≤60∧32∉l
def Words (ws:List Str):Prop:=ws≠[]∧ws.length≤100∧∀ w∈ws,Jy w
def Deed (k:Nat) (S:St) (ws:List Str) (S':St) (ans:Str):Prop:=Line S ws S' ans∧Inv (k+1) S'∧Words ws
theorem jU {S S':St} {w:Str} {ks args:List Str} {vals:List D} {ans:Str} (hf:KTD.datumAt w Zx=some ks) (hw:w≠"row") (hv:Vals S.names ks args vals) (hz:ks.length≤50) (hm:w = "merge"→∃ a b,args=[a,b]∧a≠b) (ht:Told S w vals S' ans):Line S (w::args) S' ans where
  z:=by rw [List.length_cons,hv.lens.1];omega
  f:=by
    refine⟨ks,vals,?_,by rw [List.length_cons,hv.lens.1],?_,?_,hv.lens.2,fun i k w' d h1 h2 h3=>hv.at i k w' d h1 (by rwa [List.getElem?_cons_succ] at h2) h3,w,args,rfl,ht⟩
    · show(if w = "row" then _ else _)=_
      rw [if_neg hw];exact hf
    · intro a b r e
      obtain⟨e1,e2⟩:=List.cons.inj e;obtain⟨a',b',rfl,n⟩:=hm e1;cases e2;exact n
    · intro e
      obtain⟨a',b',rfl,n⟩:=hm (by simpa using e)
      simp
theorem zhs {ns:List Str}:∀ {args:List Str} {vals:List D},args.length=vals.length→(∀ (i:Nat) (w:Str) (d:D),args[i]?=some w→vals[i]?=some d→Val ns "name" w d)→Vals ns (List.replicate args.length "name") args vals
  | [],[],_,_=>.nil
  | w :: ws, d :: ds, hl, h => by
    rw [List.length_cons,List.replicate_succ];exact .cons (h 0 w d rfl rfl) (zhs (by simpa using hl) fun i w' d' h1 h2=>h (i+1) w' d' (by rwa [List.getElem?_cons_succ]) (by rwa [List.getElem?_cons_succ]))
theorem zdq {k:Nat} {S:St} (I:Inv k S) {i:Nat} (h:i<S.names.length):S.names.idxOf (zv S i)=i:=by
  have e:=jQ h;obtain⟨h1,h2⟩:=List.getElem?_eq_some_iff.mp e;rw [←h2];exact I.nd.idxOf_getElem i h1
theorem JM {S:St} {i:Nat} (h:i<S.names.length):zv S i∈S.names:=List.mem_of_getElem? (jQ h)
theorem JW {k:Nat} {S:St} (I:Inv k S) {i:Nat} (h:i<S.names.length):Val S.names "name" (zv S i) (.int i):=.inr (.inr (.inr ⟨rfl,JM h,by rw [zdq I h]⟩))
theorem J8 {ns:List Str} {n:Int} (h:zX n (10 ^ 12)):Val ns "number" (st (tl n)) (.int n):=by
  obtain⟨m,rfl⟩:=Int.eq_ofNat_of_zero_le h.1;have h2:=h.2;refine .inl ⟨rfl,m,by omega,?_,rfl⟩
  unfold tl;rw [if_neg (by omega)];rfl
theorem ze4 {ns:List Str} {q:Rat2} (h:okQ q) (hg:Int.gcd q.1 q.2=1) (h1:Bits 20 q.1) (h2:Bits 20 q.2):Val ns "ratio" (st (txR q.1 q.2)) (dQ q):=by
  have e:(2:Nat) ^ 20<10 ^ 60:=by decide +kernel
  exact .inr (.inl ⟨rfl,q.1,q.2,h.1,hg,Nat.lt_trans h1 e,Nat.lt_trans h2 e,rfl,rfl⟩)
theorem JD {x:Str} (h:jw x):Jy x:=by
  obtain⟨l,rfl,h1,h2,h3⟩:=h;exact⟨l,rfl,h1,by omega,fun z=>by have:=(h3 32 z).1;omega⟩
theorem zbe {n:Int} (h:n.natAbs<10 ^ 50):Jy (st (tl n)):=by
  refine⟨tl n,rfl,?_,by have:=Ja (k:=50) (by decide) h;omega,ZO (by decide) (by decide)⟩
  have:=(JR 50 n.natAbs (by decide) h).1
  unfold tl
  split<;>simp<;>omega
theorem zhN {a b:Int} (h:Bits 20 a) (h':Bits 20 b):Jy (st (txR a b)):=by
  have e:(2:Nat) ^ 20<10 ^ 20:=by decide
  have l1:=Ja (n:=a) (k:=20) (by decide) (Nat.lt_trans h e)
  have l2:=Ja (n:=b) (k:=20) (by decide) (Nat.lt_trans h' e)
  have l3:=(JR 20 a.natAbs (by decide) (Nat.lt_trans h e)).1
  have l4:1≤(tl a).length:=by
    unfold tl
    split
    · simp
    · exact l3
  refine⟨txR a b,rfl,?_,?_,?_⟩
  · unfold txR;split
    · exact l4
    · rw [List.length_append];omega
  · unfold txR;split
    · omega
    · rw [List.length_append,List.length_cons];omega
  · unfold txR;split
    · exact ZO (by decide) (by decide)
    · intro z
      rcases List.mem_append.mp z with z|z
      · exact ZO (by decide) (by decide) z
      · rcases List.mem_cons.mp z with z|z
        · cases z
        · exact ZO (by decide) (by decide) z
theorem jV {x:Str} (h1:1≤x.cps.toList.length) (h2:x.cps.toList.length≤60) (h3:32∉x.cps.toList):Jy x:=⟨_,(jL x).symm,h1,h2,h3⟩
theorem jY {w:Str} {ws:List Str} (h:Jy w) (hl:ws.length<100) (hs:∀ x∈ws,Jy x):Words (w::ws):=⟨by simp,by rw [List.length_cons];omega,fun x hx=>by
  rcases List.mem_cons.mp hx with rfl|hx
  · exact h
  · exact hs x hx⟩
theorem zaJ {n:Int} (h:zX n (10 ^ 12)):n.natAbs<10 ^ 50:=by
  have h2:=h.2;have h1:=h.1;have:(10:Nat) ^ 12<10 ^ 50:=by decide +kernel
  have:((10:Int) ^ 12)=((10 ^ 12:Nat):Int):=by decide
  omega
theorem Zp {k:Nat} {n:Int} (h:zX n (10 ^ 12)):0≤n∧n<10 ^ 12*2 ^ k:=⟨h.1,by have:=zbB (Nat.zero_le k);have:=h.2;omega⟩
theorem sixty {t:Int} (h1:1≤t) (h2:t≤60):zX t (10 ^ 12):=⟨by omega,Int.lt_of_le_of_lt h2 (by decide)⟩
theorem zea {k:Nat} {S:St} (I:Inv k S):Deed k S ["show"] S (Zw S):=
  ⟨jU (ks:=[]) rfl (by decide) .nil (by decide) (fun z=>absurd z (by decide)) (.inr (.inr (.inr (.inr (.inr (.inr (.inr (.inr (.inr (.inr ⟨rfl,rfl,rfl,rfl⟩)))))))))),I.up,jY (jV (by decide) (by decide) (by decide)) (by decide) (fun x h=>by cases h)⟩
theorem zg2 {k:Nat} {S:St} (I:Inv k S):Deed k S ["clear"] S.clear "ok":=
  ⟨jU (ks:=[]) rfl (by decide) .nil (by decide) (fun z=>absurd z (by decide)) (.inr (.inr (.inr (.inr (.inr (.inr (.inr (.inr (.inr (.inl ⟨rfl,rfl,rfl,rfl⟩)))))))))),
   { I.up with s:=Nat.zero_le _,sb:=fun s h=>(by cases h),t:=(show tot []≤60 by decide),r:=Nat.zero_le _,rb:=fun s h=>(by cases h),ob:=fun l h=>(by cases h) },jY (jV (by decide) (by decide) (by decide)) (by decide) (fun x h=>by cases h)⟩
theorem zl3 {k:Nat} {S:St} (I:Inv k S) {x:Str} {n:Int} (hx:jw x) (hn:x∉S.names) (hl:S.names.length<8) (h:zX n (10 ^ 12)):Deed k S ["clan", x,st (tl n)] (S.clan x n) "ok":=by
  have U:=I.up;refine⟨jU (ks:=["new", "number"]) (vals:=[.str x,.int n]) rfl (by decide) (.cons (.inr (.inr (.inl ⟨rfl,hx,rfl⟩))) (.cons (J8 h) .nil)) (by decide) (fun z=>absurd z (by decide)) (.inl ⟨rfl,x,n,rfl,hn,hl,rfl,rfl⟩),?_,jY (jV (by decide) (by decide) (by decide)) (by show _<100;simp) fun y hy=>?_⟩
  · refine⟨?_,?_,?_,?_,?_,?_,?_,?_,?_,?_,U.r,?_,?_⟩
    · show(S.names++[x]).length≤8;rw [List.length_append];simp;omega
    · show(S.names++[x]).Nodup
      rw [List.nodup_append];exact⟨I.nd,by simp,fun a ha b hb e=>by rw [List.mem_singleton.mp hb] at e;exact hn (e ▸ ha)⟩
    · intro y hy
      rcases List.mem_append.mp hy with hy|hy
      · exact I.nm y hy
      · rw [List.mem_singleton.mp hy];exact hx
    · show(S.ws++[n]).length=(S.names++[x]).length;rw [List.length_append,List.length_append,I.w];rfl
    · intro y hy
      rcases List.mem_append.mp hy with hy|hy
      · exact U.wb y hy
      · rw [List.mem_singleton.mp hy];exact Zp h
    · show(S.lims++[_]).length=(S.names++[x]).length;rw [List.length_append,List.length_append,I.l];rfl
    · intro p hp
      rcases List.mem_append.mp hp with hp|hp
      · exact I.lb p hp
      · rw [List.mem_singleton.mp hp]
        have b1:Bits 20 (1:Int):=by unfold Bits;decide
        have o1:okQ ((1:Int),(1:Int)):=⟨by decide,b1.mono (by decide),b1.mono (by decide)⟩
        have o2:inQ ((1:Int),(1:Int)):=⟨by decide,by decide⟩
        exact⟨o1,o1,o2,o2,b1,b1,b1,b1⟩
    · show(S.spells.map _).length≤8;rw [List.length_map];exact I.s
    · intro s hs
      obtain⟨s',hs',rfl⟩:=List.mem_map.mp hs;obtain⟨h1,h2,h3,h4⟩:=U.sb s' hs';refine⟨by show(s'.2++[0]).length=(S.names++[x]).length;rw [List.length_append,List.length_append,h1];rfl,h2,fun w hw=>?_,?_⟩
      · rcases List.mem_append.mp hw with hw|hw
        · exact h3 w hw
        · rw [List.mem_singleton.mp hw];exact Zp ⟨by decide,by decide⟩
      · show(s'.2++[0]).sum≠0;rw [List.sum_append];simpa using h4
    · show tot (S.spells.map _)≤60
      have:tot (S.spells.map fun s=>(s.1,s.2++[0]))=tot S.spells:=by unfold tot;rw [List.map_map];rfl
      rw [this];exact I.t
    · intro r hr
      obtain⟨h1,h2,h3⟩:=I.rb r hr;exact⟨h1,h2,by show _<(S.names++[x]).length;rw [List.length_append];omega⟩
    · intro l hl
      obtain⟨h1,h2⟩:=I.ob l hl;exact⟨h1,fun c hc=>by have:=h2 c hc;show _<(S.names++[x]).length;rw [List.length_append];omega⟩
  · rcases List.mem_cons.mp hy with rfl|hy
    · exact JD hx
    · rw [List.mem_singleton.mp hy];exact zbe (zaJ h)
theorem zbE {α : Type} {P:α→Prop} {l:List α} {i:Nat} {x:α} (h:∀ y∈l,P y) (hx:P x):∀ y∈l.set i x,P y:=fun y hy=>by
  rcases List.mem_or_eq_of_mem_set hy with hy|rfl
  · exact h y hy
  · exact hx
theorem znJ {k:Nat} {S:St} (I:Inv k S) {i:Nat} {n:Int} (hi:i<S.names.length) (h:zX n (10 ^ 12)):Deed k S ["weight", zv S i,st (tl n)] (S.weight i n) "ok":=by
  refine⟨jU (ks:=["name", "number"]) (vals:=[.int i,.int n]) rfl (by decide) (.cons (JW I hi) (.cons (J8 h) .nil)) (by decide) (fun z=>absurd z (by decide)) (.inr (.inl ⟨rfl,i,n,rfl,hi,rfl,rfl⟩)),?_,jY (jV (by decide) (by decide) (by decide)) (by show _<100;simp) fun y hy=>?_⟩
  · exact { I.up with w:=(by show(S.ws.set i n).length=_;rw [List.length_set];exact I.w),wb:=zbE I.up.wb (Zp h) }
  · rcases List.mem_cons.mp hy with rfl|hy
    · exact JD (I.nm _ (JM hi))
    · rw [List.mem_singleton.mp hy];exact zbe (zaJ h)
theorem zi7 {k:Nat} {S:St} (I:Inv k S) {i j:Nat} {a b:Int} (hi:S.ws[i]?=some a) (hj:S.ws[j]?=some b) (n:i≠j):Deed k S ["merge", zv S i,zv S j] (S.merge i j a b) "ok":=by
  have li:i<S.names.length:=by rw [←I.w];exact(List.getElem?_eq_some_iff.mp hi).1
  have lj:j<S.names.length:=by rw [←I.w];exact(List.getElem?_eq_some_iff.mp hj).1
  have ne:zv S i≠zv S j:=fun e=>n (by rw [←zdq I li,e,zdq I lj])
  refine⟨jU (ks:=["name", "name"]) (vals:=[.int i,.int j]) rfl (by decide) (.cons (JW I li) (.cons (JW I lj) .nil)) (by decide) (fun _=>⟨_,_,rfl,ne⟩) (.inr (.inr (.inl ⟨rfl,i,j,a,b,rfl,hi,hj,n,rfl,rfl⟩))),?_,jY (jV (by decide) (by decide) (by decide)) (by show _<100;simp) fun y hy=>?_⟩
  · have wa:=I.wb a (List.mem_of_getElem? hi)
    have wb:=I.wb b (List.mem_of_getElem? hj);have e:(10:Int) ^ 12*2 ^ (k+1)=10 ^ 12*2 ^ k+10 ^ 12*2 ^ k:=by rw [Int.pow_succ (2:Int) k,←Int.mul_assoc];omega
    exact { I.up with w:=(by show((S.ws.set i (a+b)).set j 0).length=_;rw [List.length_set,List.length_set];exact I.w),wb:=zbE (zbE I.up.wb ⟨by omega,by omega⟩) (Zp ⟨by decide,by decide⟩) }
  · rcases List.mem_cons.mp hy with rfl|hy
    · exact JD (I.nm _ (JM li))
    · rw [List.mem_singleton.mp hy];exact JD (I.nm _ (JM lj))
def okR (q:Rat2):Prop:=okQ q∧inQ q∧Int.gcd q.1 q.2=1∧Bits 20 q.1∧Bits 20 q.2
theorem zke {k:Nat} {S:St} (I:Inv k S) {i:Nat} {p:Rat2×Rat2} (hi:i<S.names.length) (h1:okR p.1) (h2:okR p.2):Deed k S ["bound", zv S i,st (txR p.1.1 p.1.2),st (txR p.2.1 p.2.2)] (S.bound i p) "ok":=by
  obtain⟨a1,a2,a3,a4,a5⟩:=h1;obtain⟨b1,b2,b3,b4,b5⟩:=h2;refine⟨jU (ks:=["name", "ratio", "ratio"]) (vals:=[.int i,dQ p.1,dQ p.2]) rfl (by decide) (.cons (JW I hi) (.cons (ze4 a1 a3 a4 a5) (.cons (ze4 b1 b3 b4 b5) .nil))) (by decide) (fun z=>absurd z (by decide)) (.inr (.inr (.inr (.inr (.inl ⟨rfl,i,p,rfl,hi,a1,b1,⟨rfl,fun q hq=>by rw [List.mem_singleton.mp hq];exact⟨a2,b2⟩⟩,rfl,rfl⟩))))),?_,jY (jV (by decide) (by decide) (by decide)) (by show _<100;simp) fun y hy=>?_⟩
  · exact { I.up with l:=(by show(S.lims.set i p).length=_;rw [List.length_set];exact I.l),lb:=zbE I.lb ⟨a1,b1,a2,b2,a4,a5,b4,b5⟩ }
  · rcases List.mem_cons.mp hy with rfl|hy
    · exact JD (I.nm _ (JM hi))
    · rcases List.mem_cons.mp hy with rfl|hy
      · exact zhN a4 a5
      · rw [List.mem_singleton.mp hy];exact zhN b4 b5
theorem zmo:∀ {l:List Int},l.sum≠0→l≠[]:=fun h z=>h (by rw [z];rfl)
theorem zmD {k:Nat} {S:St} (I:Inv k S) (hk:k≤50) {n:Int} (h1:1≤n) (h2:tot S.spells+n≤60) (hs:S.spells.length<8) (hw:S.ws.sum≠0):Deed k S ["turns", st (tl n)] (S.turns n) "ok":=by
  have t0:=zep fun s m=>(I.sb s m).2.1
  have hn:zX n (10 ^ 12):=sixty h1 (by omega)
  have up:(10:Int) ^ 12*2 ^ k≤10 ^ 30:=by have:=zbB hk;have e:(10:Int) ^ 12*2 ^ 50≤10 ^ 30:=(by decide +kernel);omega
  have kw:∀ ws:List Int,ws.length=S.names.length→(∀ w∈ws,0≤w∧w<10 ^ 12*2 ^ k)→ws.sum≠0→okW ws:=fun ws e1 e2 e3=>by
    refine⟨⟨?_,by rw [e1];exact I.n⟩,fun w hw=>⟨(e2 w hw).1,by have:=(e2 w hw).2;omega⟩,e3⟩
    rcases Nat.eq_zero_or_pos ws.length with z|z
    · exact absurd (List.length_eq_zero_iff.mp z) (zmo e3)
    · exact z
  have all:∀ s∈S.spells++[(n,S.ws)],1≤s.1∧okW s.2∧s.2.length=S.names.length:=fun s hs=>by
    rcases List.mem_append.mp hs with hs|hs
    · obtain⟨a,b,c,d⟩:=I.sb s hs
      exact⟨b,kw _ a c d,a⟩
    · rw [List.mem_singleton.mp hs];exact⟨h1,kw _ I.w I.wb hw,I.w⟩
  have hmany:many (S.spells++[(n,S.ws)])=S.names.length:=by
    unfold many;cases e:S.spells with
    | nil=>exact I.w
    | cons s r=>exact(I.sb s (by rw [e];exact List.mem_cons_self)).1
  have ok:okS (S.spells++[(n,S.ws)]):=by
    refine⟨⟨by rw [List.length_append];simp,by rw [List.length_append];simp;omega⟩,fun s hs=>?_,by rw [zfq];exact h2⟩
    obtain⟨a,b,c⟩:=all s hs;exact⟨a,b,by rw [hmany];exact c⟩
  refine⟨jU (ks:=["number"]) (vals:=[.int n]) rfl (by decide) (.cons (J8 hn) .nil) (by decide) (fun z=>absurd z (by decide)) (.inr (.inr (.inr (.inl ⟨rfl,n,rfl,ok,rfl,rfl⟩)))),?_,jY (jV (by decide) (by decide) (by decide)) (by show _<100;simp) fun y hy=>?_⟩
  · refine { I.up with s:=?_,sb:=fun s hs=>?_,t:=?_,ob:=fun l h=>(by cases h) }
    · show(S.spells++[_]).length≤8;rw [List.length_append];simp;omega
    · rcases List.mem_append.mp hs with hs|hs
      · exact I.up.sb s hs
      · rw [List.mem_singleton.mp hs];exact⟨I.w,h1,I.up.wb,hw⟩
    · show tot (S.spells++[(n,S.ws)])≤60;rw [zfq];exact h2
  · rw [List.mem_singleton.mp hy];exact zbe (zaJ hn)
theorem zmX {k:Nat} {S:St} (I:Inv k S) {t:Int} (h1:1≤t) (h2:t≤tot S.spells):Deed k S ["free", st (tl t)] (S.free t) "ok":=by
  have hn:zX t (10 ^ 12):=sixty h1 (by have:=I.t;omega)
  refine⟨jU (ks:=["number"]) (vals:=[.int t]) rfl (by decide) (.cons (J8 hn) .nil) (by decide) (fun z=>absurd z (by decide)) (.inr (.inr (.inr (.inr (.inr (.inr (.inr (.inl ⟨rfl,t,rfl,h1,h2,rfl,rfl⟩)))))))),?_,jY (jV (by decide) (by decide) (by decide)) (by show _<100;simp) fun y hy=>?_⟩
  · exact { I.up with r:=Nat.le_trans (List.length_filter_le _ _) I.up.r,rb:=fun r hr=>I.rb r (List.mem_filter.mp hr).1 }
  · rw [List.mem_singleton.mp hy];exact zbe (zaJ hn)
theorem zon {k:Nat} {S:St} (I:Inv k S) (b:Bool) {t:Int} {i:Nat} (h1:1≤t) (h2:t≤tot S.spells) (hi:i<S.names.length):Deed k S [fixT b,st (tl t),zv S i] (S.rule (b,t,i)) "ok":=by
  have t60:=I.t;have hn:zX t (10 ^ 12):=sixty h1 (by omega)
  refine⟨?_,?_,jY (by cases b<;>exact jV (by decide) (by decide) (by decide)) (by show _<100;simp) fun y hy=>?_⟩
  · cases b with
    | true=>exact jU (ks:=["number", "name"]) (vals:=[.int t,.int i]) rfl (by decide) (.cons (J8 hn) (.cons (JW I hi) .nil)) (by decide) (fun z=>absurd z (by decide)) (.inr (.inr (.inr (.inr (.inr (.inl ⟨rfl,t,i,rfl,h1,h2,rfl,rfl⟩))))))
    | false=>exact jU (ks:=["number", "name"]) (vals:=[.int t,.int i]) rfl (by decide) (.cons (J8 hn) (.cons (JW I hi) .nil)) (by decide) (fun z=>absurd z (by decide)) (.inr (.inr (.inr (.inr (.inr (.inr (.inl ⟨rfl,t,i,rfl,h1,h2,rfl,rfl⟩)))))))
  · refine { I.up with r:=?_,rb:=fun r hr=>?_ }
    · show(S.rules++[_]).length≤k+1;rw [List.length_append];have:=I.r;simp;omega
    · rcases List.mem_append.mp hr with hr|hr
      · exact I.rb r hr
      · rw [List.mem_singleton.mp hr];exact⟨h1,by show t≤60;omega,hi⟩
  · rcases List.mem_cons.mp hy with rfl|hy
    · exact zbe (zaJ hn)
    · rw [List.mem_singleton.mp hy];exact JD (I.nm _ (JM hi))
theorem zj3 {k:Nat} {S:St} (I:Inv k S) {l:List Nat} (hl:((l.length:Nat):Int)=tot S.spells) (h0:0<tot S.spells) (hc:∀ c∈l,c<S.names.length):Deed k S (("row" : Str)::l.map (zv S)) (S.setRow l) "ok":=by
  have t60:=I.t;have hv:=zhs (ns:=S.names) (args:=l.map (zv S)) (vals:=l.map fun(c:Nat)=>PyData.int c) (by rw [List.length_map,List.length_map]) (fun i w d h1 h2=>by
    rw [List.getElem?_map] at h1 h2;cases e:l[i]? with
    | none=>rw [e] at h1;cases h1
    | some c=>
      rw [e] at h1 h2;cases h1;cases h2;exact JW I (hc c (List.mem_of_getElem? e)))
  refine⟨⟨by rw [List.length_cons,List.length_map];omega,List.replicate (l.map (zv S)).length "name", _,?_,by rw [List.length_cons,List.length_replicate],fun a b r e=>absurd (List.cons.inj e).1 (by decide),fun e=>absurd (show("row" : Str) = "merge" by simpa using e) (by decide),hv.lens.2,fun i k w' d h1 h2 h3=>hv.at i k w' d h1 (by rwa [List.getElem?_cons_succ] at h2) h3,"row", _,rfl,?_⟩,?_,jY (jV (by decide) (by decide) (by decide)) (by rw [List.length_map];omega) fun y hy=>?_⟩
  · show(if("row" : Str) = "row" then some (List.replicate (max 1 (l.map (zv S)).length) ("name" : Str)) else KTD.datumAt ("row" : Str) Zx)=_
    rw [if_pos rfl,Nat.max_eq_right (by rw [List.length_map];omega)]
  · exact .inr (.inr (.inr (.inr (.inr (.inr (.inr (.inr (.inl ⟨rfl,l,rfl,hl,hc,rfl,rfl⟩))))))))
  · exact { I.up with ob:=fun l' e=>(by cases e;exact⟨by omega,hc⟩) }
  · obtain⟨c,h,rfl⟩:=List.mem_map.mp hy
    exact JD (I.nm _ (JM (hc c h)))
def opt1 (c:List Nat):List (List Nat):=if c=[] then [] else [c]
def wds:List Nat→List Nat→List (List Nat)
  | cur,[]=>opt1 cur
  | cur,c::r=>if c=32 then opt1 cur++wds [] r else wds (cur++[c]) r
theorem zbo:∀ (w cur r:List Nat),32∉w→wds cur (w++r)=wds (cur++w) r
  | [],cur,r,_=>by rw [List.nil_append,List.append_nil]
  | c :: w, cur, r, h => by
    rw [List.cons_append,wds.eq_2,if_neg (fun z=>h (by rw [z];exact List.mem_cons_self)),zbo w _ r (fun z=>h (List.mem_cons_of_mem _ z)),List.append_assoc];rfl
theorem zci (cur r:List Nat):wds cur (32::r)=opt1 cur++wds [] r:=by
  rw [wds.eq_2,if_pos rfl]
theorem zch:∀ (n:Nat) (r:List Nat),wds [] (List.replicate n 32++r)=wds [] r
  | 0,r=>rfl
  | n+1,r=>by rw [List.replicate_succ,List.cons_append,zci,zch n r];rfl
def jl (sep:List Nat):List (List Nat)→List Nat
  | []=>[]
  | [p]=>p
  | p::q::r=>p++(sep++jl sep (q::r))
theorem zhy:∀ (ps:List (List Nat)),ps≠[]→(∀ p∈ps,32∉p)→wds [] (jl [32] ps)=ps.filter fun p=>decide (p≠[])
  | [],h,_=>absurd rfl h
  | [p], _, h => by
    show wds [] p=_
    have:=zbo p [] [] (h p List.mem_cons_self);rw [List.append_nil] at this;rw [this,List.nil_append];unfold wds opt1
    by_cases e:p=[]<;>simp [e]
  | p :: q :: r, _, h => by
    show wds [] (p++(32::jl [32] (q::r)))=_
    rw [zbo p [] _ (h p List.mem_cons_self),List.nil_append,zci,zhy (q::r) (by simp) (fun x hx=>h x (List.mem_cons_of_mem _ hx))]
    unfold opt1
    by_cases e:p=[]<;>simp [e]
theorem zhC (n m:Nat):∀ (ps:List (List Nat)),ps≠[]→(∀ p∈ps,p≠[]∧32∉p)→wds [] (jl (List.replicate (n+1) 32) ps++List.replicate m 32)=ps
  | [],h,_=>absurd rfl h
  | [p], _, h => by
    obtain⟨h1,h2⟩:=h p List.mem_cons_self;show wds [] (p++List.replicate m 32)=_;rw [zbo p [] _ h2,List.nil_append];cases m with
    | zero=>rw [List.replicate_zero];unfold wds opt1;rw [if_neg h1]
    | succ m=>
      rw [List.replicate_succ,zci];have:=zch m [];rw [List.append_nil] at this;rw [this];unfold wds opt1;rw [if_neg h1,if_pos rfl];rfl
  | p :: q :: r, _, h => by
    obtain⟨h1,h2⟩:=h p List.mem_cons_self;show wds [] (p++(List.replicate (n+1) 32++jl _ (q::r))++_)=_;rw [List.append_assoc,zbo p [] _ h2,List.nil_append,List.replicate_succ,List.append_assoc,List.cons_append,zci,zch,←List.replicate_succ,zhC n m (q::r) (by simp) (fun x hx=>h x (List.mem_cons_of_mem _ hx))]
    unfold opt1;rw [if_neg h1];rfl
theorem zdv (sep:Str):∀ ws:List Str,(Txt.join sep ws).cps.toList=jl sep.cps.toList (ws.map fun w=>w.cps.toList)
  | []=>rfl
  | [w]=>rfl
  | w :: v :: r => by
    rw [zbv,app_list,app_list,zdv sep (v::r),List.append_assoc];rfl
theorem zmG {a b:List Str} (h:a.map (fun w=>w.cps.toList)=b.map fun w=>w.cps.toList):a=b:=by
  have e:∀ l:List Str,(l.map fun w=>w.cps.toList).map st=l:=fun l=>by
    rw [List.map_map];exact(List.map_congr_left fun x _=>jL x).trans (List.map_id l)
  rw [←e a,←e b,h]
theorem zoV (x:Str):((Txt.split x " ").filter fun(w:Str)=>decide (w≠"")).map (fun w=>w.cps.toList)=wds [] x.cps.toList:=by
  have e32:(Str.ofString " ")=(⟨#[32]⟩:Str):=by decide +kernel
  have h1:Txt.join " " (Txt.split x " ")=x:=by
    show Builtin.Str.glued _ _=_
    rw [StrLaws.glued_eq_join];exact StrLaws.join_split x _
  have h2:∀ p∈(Txt.split x " ").map (fun w=>w.cps.toList),32∉p:=fun p hp=>by
    obtain⟨y,hy,rfl⟩:=List.mem_map.mp hp;rw [e32] at hy;exact StrLaws.split_free x 32 y hy
  have h3:(Txt.split x " ").map (fun w=>w.cps.toList)≠[]:=fun z=>by
    have:=PyProof.Rows.split_pos x " ";rw [List.map_eq_nil_iff.mp z] at this
    simp at this
  have h4:=zhy _ h3 h2;have h5:=zdv " " (Txt.split x " ");rw [h1] at h5;have e:(Str.ofString " ").cps.toList=[32]:=by decide
  rw [e] at h5;rw [h5,h4,List.filter_map]
  congr 1
  refine List.filter_congr fun y _=>?_
  show decide (y≠"")=decide (y.cps.toList≠[])
  have:y = ""↔y.cps.toList=[]:=by
    constructor
    · intro z;rw [z];decide
    · intro z;rw [←jL y,z];decide
  rw [decide_eq_decide];exact not_congr this
theorem Jj {n:Int} (h:0≤n) (h':n≤2):(Txt.mul " " n).cps.toList=List.replicate n.toNat 32∧(Txt.mul " " n).length≤2:=by
  obtain rfl|rfl|rfl:n=0∨n=1∨n=2:=by omega
  · decide +kernel
  · decide +kernel
  · decide +kernel
def Jk (s:Int) (ws:List Str):Str:=Txt.mul " " (s%3)++Txt.join (Txt.mul " " (1+s/3%2)) ws++Txt.mul " " (s/6%2)
theorem zh6 {s:Int} (h:0≤s) {ws:List Str} (hw:Words ws):((Txt.split (Jk s ws) " ").filter fun(w:Str)=>decide (w≠""))=ws:=by
  obtain⟨w1,w2,w3⟩:=hw;obtain⟨m1,_⟩:=Jj (n:=s%3) (by omega) (by omega)
  obtain⟨m2,_⟩:=Jj (n:=1+s/3%2) (by omega) (by omega)
  obtain⟨m3,_⟩:=Jj (n:=s/6%2) (by omega) (by omega)
  refine zmG ?_
  rw [zoV];unfold Jk;rw [app_list,app_list,zdv,m1,m2,m3,List.append_assoc,zch,show(1+s/3%2).toNat=(s/3%2).toNat+1 by omega]
  refine zhC _ _ _ (by simpa using w1) fun p hp=>?_
  obtain⟨x,hx,rfl⟩:=List.mem_map.mp hp;obtain⟨l,rfl,h1,h2,h3⟩:=w3 x hx;rw [ju];exact⟨fun z=>by rw [z] at h1;simp at h1,h3⟩
theorem zg5 {ws:List Str} (hw:Words ws):(ws.map (·.length)).sum≤6000:=by
  have:=JI (l:=ws.map fun x=>x.length) (k:=60) (by
    intro y hy;obtain⟨x,hx,rfl⟩:=List.mem_map.mp hy;obtain⟨l,rfl,h1,h2,h3⟩:=hw.2.2 x hx;rw [zp];exact h2)
  have h2:=hw.2.1;simp only [List.length_map] at this
  omega
theorem zj4 {s:Int} (h:0≤s) {ws:List Str} (hw:Words ws):(Txt.join (Txt.mul " " (1+s/3%2)) ws).length≤7000∧(Jk s ws).length≤8000∧(Txt.split (Jk s ws) " ").length≤9000:=by
  obtain⟨_,m1⟩:=Jj (n:=s%3) (by omega) (by omega)
  obtain⟨_,m2⟩:=Jj (n:=1+s/3%2) (by omega) (by omega)
  obtain⟨_,m3⟩:=Jj (n:=s/6%2) (by omega) (by omega)
  have j:=ZH (Txt.mul " " (1+s/3%2)) ws;have k:=zg5 hw;have h2:=hw.2.1;have h3:ws.length*(Txt.mul " " (1+s/3%2)).length≤100*2:=Nat.mul_le_mul h2 m2;have j':(Txt.join (Txt.mul " " (1+s/3%2)) ws).length≤7000:=by omega
  have l1:(Jk s ws).length≤8000:=by unfold Jk;rw [jy,jy];omega
  exact⟨j',l1,by have:=PyProof.Rows.split_le (Jk s ws) " ";omega⟩
theorem itp {p a b:Prop} [Decidable p] (h1:p→a) (h2:¬p→b):if p then a else b:=by
  by_cases h:p
  · rw [if_pos h];exact h1 h
  · rw [if_neg h];exact h2 h
theorem zno {S S':St} (h:∀ i,i<S.names.length→zv S' i=zv S i) {l:List (Bool×Int×Nat)} (hl:∀ r∈l,r.2.2<S.names.length):l.map (dRM S')=l.map (dRM S):=List.map_congr_left fun r hr=>by unfold dRM;rw [h _ (hl r hr)]
theorem zfr {S:St} {x:Str} {n:Int} {i:Nat} (h:i<S.names.length):zv (S.clan x n) i=zv S i:=by
  unfold zv St.clan;rw [List.getD_eq_getElem?_getD,List.getD_eq_getElem?_getD,List.getElem?_append_left h]
theorem znN {i n:Nat} {m:Int} (hi:i<n) (hm:zX m ((n:Int) - 1)):∃ j:Nat,((i:Int)+1+m)%(n:Int)=(j:Int)∧j<n∧j≠i:=by
  obtain⟨h1,h2⟩:=hm
  by_cases h:(i:Int)+1+m<n
  · exact⟨((i:Int)+1+m).toNat,by rw [Int.emod_eq_of_lt (by omega) h];omega,by omega,by omega⟩
  · refine⟨((i:Int)+1+m - n).toNat,?_,by omega,by omega⟩
    rw [←Int.sub_emod_right,Int.emod_eq_of_lt (by omega) (by omega)];omega
theorem zi2 {k:Nat} {S:St} (I:Inv k S) {x:Str} {n:Int} {fl:Fl} (h:rowF S fl):rowF (S.clan x n) fl:=by
  unfold rowF at h ⊢;show match S.row with|none=>_|some l=>_
  cases e:S.row with
  | none=>rw [e] at h;exact h
  | some l=>
    rw [e] at h;obtain⟨a,ha⟩:=h;refine⟨a,?_⟩;rw [ha]
    congr 2
    exact(List.map_congr_left fun c hc=>(zfr ((I.ob l e).2 c hc))).symm
def S0:St:=⟨[],[],[],[],[],none⟩
theorem inv0:Inv 0 S0:=⟨by decide,by decide,fun x h=>(by cases h),rfl,fun x h=>(by cases h),rfl,fun x h=>(by cases h),by decide,fun x h=>(by cases h),by decide,by decide,fun x h=>(by cases h),fun l h=>(by cases h)⟩
theorem ze8 (dx p l1 l2 l3 l5:Addr):zA (newD dx p l1 l2 l3 l5) S0:=⟨dx,p,l1,l2,l3,l5,rfl⟩
theorem zkM (p l1 l2 l3 l4 l5:Addr):zT (newM p l1 l2 l3 l4 l5) S0:=⟨p,l1,l2,l3,l4,l5,[],_,rfl,rfl⟩
structure Both (k:Nat) (o0 o1 p0 p1:Ob):Prop where
  ex:∃ A B,zA o0 A∧zA o1 B∧zT p0 A∧zT p1 B∧Inv k A∧Inv k B
section
variable {P:Program} {w:World} {c:Law.Cl} {K:PySem.W.Frag} {mg:Str→Option Value} {base:Heap}
seal PS3 PSs3
def zaS:Sp3:=fun ds Q E=>∃ ns:List Int,ds=[dI ns,.int 0]∧∀ n:Int,Q true (.int n)
def zav:SpR:=fun cs Q=>∃ m:Int,cs=[.bg,.sh true (.int m)]∧0<m∧Bits 9000 m∧∀ n,zX n m→Q true (.int n)
def zbj:SpR:=fun cs Q=>∃ S:St,cs=[.fo none (jt S)]∧Few S∧Q true (.int (tot S.spells))
def zaL:SpR:=fun cs Q=>cs=[.bg]∧∀ n,zX n (10 ^ 12)→Q true (.int n)
def za8:Sp3:=fun ds Q E=>∃ a b:Int,ds=[.int a,.int b]∧0≤a∧0<b∧Bits 9000 b∧Q true (.tuple [.int (a/Int.gcd a b),.int (b/Int.gcd a b)])
def zaI:SpR:=fun cs Q=>cs=[.bg]∧∀ a b:Int,okQ (a,b)→inQ (a,b)→Int.gcd a b=1→Bits 20 a→Bits 20 b→Q true (.tuple [.int a,.int b])
def zao:Sp3:=fun ds Q E=>∃ a b:Int,ds=[.tuple [.int a,.int b]]∧Bits 1500 a∧Bits 1500 b∧Q true (.str (st (txR a b)))
def zaF:SpO:=fun o cs Q=>∃ (k:Nat) (S:St) (n:Int),zT o S∧cs=[.sh true (.int n),.bg]∧Inv k S∧k≤50∧0<S.names.length∧∀ o' ws S',o'.a=o.a→zT o' S'→Deed k S ws S' "ok"→∀ f,Q o' f (dSt ws)
def zbb:SpR:=fun cs Q=>∃ S:St,cs=[.fo none (jt S)]∧Good S∧Q true (.str (Zw S))
def zap:Sp3:=fun ds Q E=>∃ k cell:Int,ds=[.int k,.int cell]∧0≤k∧k≤40∧∀ x,jw x→Q true (.str x)
def zbd:Sp3:=fun ds Q E=>∃ (ns:List Str) (cell:Int),ds=[dSt ns,.int cell]∧ns.length≤8∧∀ x,jw x→x∉ns→Q true (.str x)
def zaa:SpO:=fun o cs Q=>∃ (k:Nat) (S:St),zT o S∧cs=[.bg]∧Inv k S∧k≤50∧S.names.length<8∧∀ o' ws S',o'.a=o.a→zT o' S'→Deed k S ws S' "ok"→∀ f,Q o' f (dSt ws)
def Z5:SpO:=fun o cs Q=>∃ (k:Nat) (S:St) (n:Int),zT o S∧cs=[.sh true (.int n),.bg]∧4≤n∧n≤7∧Inv k S∧k≤50∧0<S.names.length∧0<tot S.spells∧∀ o' ws S',o'.a=o.a→zT o' S'→Deed k S ws S' "ok"→∀ f,Q o' f (dSt ws)
def Zm:SpO:=fun o cs Q=>∃ (k:Nat) (S:St),zT o S∧cs=[.bg]∧Inv k S∧k≤50∧∀ o' ws S' due,o'.a=o.a→zT o' S'→Deed k S ws S' due→∀ f,Q o' f (.tuple [dSt ws,.str due])
def ZV:Sp3:=fun ds Q E=>∃ l:Str,ds=[.str l]∧l.length≤100000∧(Txt.split l " ").length≤100000∧Q true (dSt ((Txt.split l " ").filter fun w=>decide (w≠"")))
def ZY:Sp3:=fun ds Q E=>∃ (ws fm:List Str),ds=[dSt ws]∧ws.length≤100∧zcn ws=some fm∧∀ f,Q f (dTt fm)
def zay:Sp3:=fun ds Q E=>∃ (ws fm:List Str),ds=[dSt ws,dTt fm]∧ws.length=fm.length+1∧(∀ a b r,ws=("merge" : Str)::a::b::r→a≠b)∧(ws.head?=some ("merge" : Str)→3≤ws.length)∧Q true .none
def zbt:Sp3:=fun ds Q E=>∃ x ns,ds=[.str x,dSt ns]∧x∈ns∧Q true (.int (ns.idxOf x:Nat))
def ZX:Sp3:=fun ds Q E=>∃ (l:List Nat) (s:Str) (n:Int),ds=[.str (st l),.str s,.int n]∧l.length≤n∧n≤100∧(∀ c∈l,isIn s c=true)∧Q true (.bool true)
def zaM:Sp3:=fun ds Q E=>∃ m:Nat,ds=[.str (st (dg m))]∧m<10 ^ 12∧Q true (.int m)
def zae (c:Law.Cl):Sp3:=fun ds Q E=>∃ l,ds=[.str (st l)]∧l.length≤4000∧(∀ v,numV l=some v→Q true (.int v))∧(numV l=none→E c.NoText)
def zaX (c:Law.Cl):Sp3:=fun ds Q E=>∃ l,ds=[.str (st l)]∧l.length≤4000∧(∀ v,topV l=some v→Q true (.int v))∧(topV l=none→E c.NoText)
def ZW:Sp3:=fun ds Q _=>∃ a b,ds=[.int a,.int b]∧Q true (.int (Int.gcd a b))
def zax:Sp3:=fun ds Q E=>∃ a,ds=[.int a]∧Q true (.bool true)
def za9:Sp3:=fun ds Q E=>∃ a b,ds=[.int a,.int b]∧0<b∧Bits 9000 b∧Q true (dR a b)
def zaH:Sp3:=fun ds Q E=>∃ a b,ds=[.tuple [.int a,.int b]]∧Bits 1500 a∧Bits 1500 b∧Q true (.str (st (txR a b)))
def ZZ (c:Law.Cl):Sp3:=fun ds Q E=>∃ l,ds=[.str (st l)]∧l.length≤4000∧(∀ a b,jN l=some (a,b)→Q true (.tuple [.int a,.int b]))∧(jN l=none→E c.NoText)
def zbc:Sp3:=fun ds Q E=>∃ x,ds=[.str x]∧jw x∧Q true (.str x)
def zaG:Sp3:=fun ds Q E=>∃ k w ns d,ds=[.str k,.str w,dSt ns]∧Val ns k w d∧Q true d
def zbp:Sp3:=fun ds Q E=>∃ (ws ns fm:List Str) (vals:List D),ds=[dSt ws,dSt ns]∧ws.length≤100∧zcn ws=some fm∧ws.length=fm.length+1∧(∀ a b r,ws=("merge" : Str)::a::b::r→a≠b)∧(ws.head?=some ("merge" : Str)→3≤ws.length)∧vals.length=fm.length∧(∀ (i:Nat) (k w:Str) (d:D),fm[i]?=some k→ws[i+1]?=some w→vals[i]?=some d→Val ns k w d)∧Q true (.list vals)
def ZN:SpO:=fun o cs Q=>∃ (S:St) (x:Str) (w:Int),zA o S∧cs=[.sh false (.list [.str x,.int w])]∧Few S∧x∉S.names∧S.names.length<8∧(∀ s∈S.spells,s.2.length≤8)∧∀ o',o'.a=o.a→zA o' (S.clan x w)→Q o' true OK
def Zd:SpO:=fun o cs Q=>∃ (S:St) (i:Nat) (w:Int),zA o S∧cs=[.sh false (.list [.int i,.int w])]∧Few S∧i<S.names.length∧∀ o',o'.a=o.a→zA o' (S.weight i w)→Q o' true OK
def ZM:SpO:=fun o cs Q=>∃ (S:St) (i j:Nat) (a b:Int),zA o S∧cs=[.sh false (.list [.int i,.int j])]∧Few S∧S.ws[i]?=some a∧S.ws[j]?=some b∧i≠j∧∀ o',o'.a=o.a→zA o' (S.merge i j a b)→Q o' true OK
def za4 (c:Law.Cl):Sp3:=fun ds Q E=>∃ ws,ds=[dI ws]∧(okW ws→Q true .none)∧(¬okW ws→E c.NoSpell)
def zbh:Sp3:=fun ds Q E=>∃ l,ds=[dSs l]∧l.length≤1000∧Q true (.int (tot l))
def Z7 (c:Law.Cl):Sp3:=fun ds Q E=>∃ l,ds=[dSs l]∧(okS l→Q true .none)∧(¬okS l→E c.NoSpell)
def ZQ:SpO:=fun o cs Q=>∃ (S:St) (n:Int),zA o S∧cs=[.sh false (.list [.int n])]∧Few S∧okS (S.spells++[(n,S.ws)])∧∀ o',o'.a=o.a→zA o' (S.turns n)→Q o' true OK
def zaE:Sp3:=fun ds Q E=>∃ a b:Rat2,ds=[dQ a,dQ b]∧okQ a∧okQ b∧Q true (.bool (decide (a.1*b.2<b.1*a.2)))
def zbi (c:Law.Cl):Sp3:=fun ds Q E=>∃ (l:List (Rat2×Rat2)) (n:Nat),ds=[dPs l,.int n]∧(∀ p∈l,okQ p.1∧okQ p.2)∧(okB n l→Q true .none)∧(¬okB n l→E c.NoBounds)
def Zg:SpO:=fun o cs Q=>∃ (S:St) (i:Nat) (p:Rat2×Rat2),zA o S∧cs=[.sh false (.list [.int i,dQ p.1,dQ p.2])]∧Few S∧i<S.names.length∧okQ p.1∧okQ p.2∧okB 1 [p]∧∀ o',o'.a=o.a→zA o' (S.bound i p)→Q o' true OK
def zaC (c:Law.Cl):Sp3:=fun ds Q E=>∃ t T:Int,ds=[.int t,.int T]∧(1≤t∧t≤T→Q true .none)∧(¬(1≤t∧t≤T)→E c.NoRule)
def zal:SpO:=fun o cs Q=>∃ (S:St) (b:Bool) (t:Int) (i:Nat),zA o S∧cs=[.sh true (.str (if b=true then "fixed" else "barred")),.sh true (.int t),.sh true (.int i)]∧Few S∧1≤t∧t≤tot S.spells∧∀ o',o'.a=o.a→zA o' (S.rule (b,t,i))→Q o' true OK
def Ze:SpO:=fun o cs Q=>∃ (S:St) (t:Int) (i:Nat),zA o S∧cs=[.sh false (.list [.int t,.int i])]∧Few S∧1≤t∧t≤tot S.spells∧∀ o',o'.a=o.a→zA o' (S.rule (true,t,i))→Q o' true OK
def ZG:SpO:=fun o cs Q=>∃ (S:St) (t:Int) (i:Nat),zA o S∧cs=[.sh false (.list [.int t,.int i])]∧Few S∧1≤t∧t≤tot S.spells∧∀ o',o'.a=o.a→zA o' (S.rule (false,t,i))→Q o' true OK
def ZB:SpO:=fun o cs Q=>∃ (S:St) (t:Int),zA o S∧cs=[.sh false (.list [.int t])]∧Few S∧1≤t∧t≤tot S.spells∧∀ o',o'.a=o.a→zA o' (S.free t)→Q o' true OK
def zak (c:Law.Cl):Sp3:=fun ds Q E=>∃ (row:List Int) (T n:Nat),ds=[dI row,.int T,.int n]∧(zhf n T row→Q true .none)∧(¬zhf n T row→E c.NoRow)
def Zc:SpO:=fun o cs Q=>∃ (S:St) (l:List Nat),zA o S∧cs=[.sh false (dN l)]∧Few S∧((l.length:Nat):Int)=tot S.spells∧(∀ c∈l,c<S.names.length)∧∀ o',o'.a=o.a→zA o' (S.setRow l)→Q o' true OK
def J7:SpO:=fun o cs Q=>∃ (S:St), zA o S∧cs=[.sh false (.list [])]∧Few S∧∀ o',o'.a=o.a→zA o' (S.clear)→Q o' true OK
def zar:SpR:=fun cs Q=>∃ (S:St) (dx:Addr) (i:Nat),cs=[.fo (some dx) (jp S),.sh true (.int i)]∧Good S∧i<S.names.length∧Q true (.str (jj S i))
def zaz:SpR:=fun cs Q=>∃ (S:St) (dx:Addr) (r:Bool×Int×Nat),cs=[.fo (some dx) (jp S),.sh false (dRD r)]∧Good S∧Bits 20 r.2.1∧r.2.2<S.names.length∧Q true (.str (j5 S r))
def zaZ:Sp3:=fun ds Q E=>∃ ns:List Int,ds=[dI ns]∧ns.length≤100∧(∀ n∈ns,Bits 200 n)∧Q true (.str (Txt.join " " (ns.map fun n=>st (tl n))))
def Z2:SpR:=fun cs Q=>∃ (S:St) (dx:Addr) (l:List Nat),cs=[.fo (some dx) (jp S),.sh false (dN l)]∧Good S∧l.length≤60∧(∀ c∈l,c<S.names.length)∧Q true (.str (Zv S l))
def Zb:SpR:=fun cs Q=>∃ (S:St) (dx:Addr) (f:Bool) (d:D),cs=[.fo (some dx) (jp S),.sh f d]∧Good S∧Q true (.str (Zw S))
def tabA:List (Str×SpO):=[("clan", ZN),("weight", Zd),("merge", ZM),("turns", ZQ),("bound", Zg),("fix", Ze),("bar", ZG),("free", ZB),("row", Zc),("clear", J7),("show", spRO Zb)]
def JU:SpO:=fun o cs Q=>∃ (S S':St) (l:Str) (ws:List Str) (ans:Str),zA o S∧cs=[.sh true (.str l)]∧Good S∧l.length≤100000∧(Txt.split l " ").length≤100000∧((Txt.split l " ").filter fun(w:Str)=>decide (w≠""))=ws∧Line S ws S' ans∧∀ o',o'.a=o.a→zA o' S'→Q o' true (.str ans)
theorem zkO (o:Ob) (cs:List L3.Cl) (Q Q':Ob→Bool→D→Prop) (hq:∀ o f d,Q o f d→Q' o f d) (h:JU o cs Q):JU o cs Q':=by
  obtain⟨S,S',l,ws,ans,h1,h2,h3,h4,h5,h6,h7,q⟩:=h;exact⟨S,S',l,ws,ans,h1,h2,h3,h4,h5,h6,h7,fun o' e1 e2=>hq _ _ _ (q o' e1 e2)⟩
theorem zlp (vs:List V):(L3.dN.zip vs).lookup ("say" : Str)=none:=by
  have:∀ (N:List Str) (vs:List V),(∀ x∈N,(("say" : Str)==x)=false)→(N.zip vs).lookup ("say" : Str)=none:=by
    intro N
    induction N with
    | nil=>intro vs _;rfl
    | cons x N ih=>
      intro vs h;cases vs with
      | nil=>rfl
      | cons v vs=>rw [List.zip_cons_cons,List.lookup_cons,h x List.mem_cons_self];exact ih vs fun y hy=>h y (List.mem_cons_of_mem _ hy)
  exact this L3.dN vs (by decide +kernel)
theorem zld {S S':St} {w:Str} {vals:List D} {ans:Str} {o:Ob} {Q:Ob→Bool→D→Prop} (t:Told S w vals S' ans) (h:zA o S) (g:Good S) (q:∀ o',o'.a=o.a→zA o' S'→Q o' true (.str ans)):∃ sp,KTD.datumAt w tabA=some sp∧sp o [.sh false (.list vals)] Q:=by
  have fw:=g.toFew;have g8:∀ s∈S.spells,s.2.length≤8:=fun s hs=>by have:=(g.sb s hs).1;have:=fw.n;omega
  rcases t with ⟨rfl,x,n,rfl,h1,h2,rfl,rfl⟩|⟨rfl,i,n,rfl,h1,rfl,rfl⟩|⟨rfl,i,j,a,b,rfl,h1,h2,h3,rfl,rfl⟩|⟨rfl,n,rfl,h1,rfl,rfl⟩|⟨rfl,i,p,rfl,h1,h2,h3,h4,rfl,rfl⟩|⟨rfl,t,i,rfl,h1,h2,rfl,rfl⟩|⟨rfl,t,i,rfl,h1,h2,rfl,rfl⟩|⟨rfl,t,rfl,h1,h2,rfl,rfl⟩|⟨rfl,l,rfl,h1,h2,rfl,rfl⟩|⟨rfl,rfl,rfl,rfl⟩|⟨rfl,rfl,rfl,rfl⟩
  · exact⟨_,rfl,S,x,n,h,rfl,fw,h1,h2,g8,q⟩
  · exact⟨_,rfl,S,i,n,h,rfl,fw,h1,q⟩
  · exact⟨_,rfl,S,i,j,a,b,h,rfl,fw,h1,h2,h3,q⟩
  · exact⟨_,rfl,S,n,h,rfl,fw,h1,q⟩
  · exact⟨_,rfl,S,i,p,h,rfl,fw,h1,h2,h3,h4,q⟩
  · exact⟨_,rfl,S,t,i,h,rfl,fw,h1,h2,q⟩
  · exact⟨_,rfl,S,t,i,h,rfl,fw,h1,h2,q⟩
  · exact⟨_,rfl,S,t,h,rfl,fw,h1,h2,q⟩
  · exact⟨_,rfl,S,l,h,rfl,fw,h1,h2,q⟩
  · exact⟨_,rfl,S,h,rfl,fw,q⟩
  · obtain⟨dx,a,l1,l2,l3,l5,rfl⟩:=h
    exact⟨_,rfl,S',dx,false,.list [],rfl,g,rfl,q _ rfl ⟨dx,a,l1,l2,l3,l5,rfl⟩⟩
def Zh:SpO:=fun o cs Q=>∃ (S S':St) (f:Bool) (ws:List Str) (due:Str) (s:Int),zA o S∧cs=[.sh f (dSt ws),.sh true (.str due),.sh true (.int s)]∧Good S∧0≤s∧Words ws∧Line S ws S' due∧∀ o',o'.a=o.a→zA o' S'→Q o' true (.bool true)
def J0:Sp3:=fun ds Q _=>∃ (ns:List Int),ds=[.list (ns.map .int)]∧ns.length≤63∧∀ f,Q f (.bool true)
theorem zaT {C dx a:Addr} {fs:List (Str×V)} {f:Str} {σ : L2.St} {D:L2.Ends} {H:Hp} (h0:σ[0]?=some (some (.ref a))) (ha:H a=some (.ins C dx fs)) (cl:Cls K C) (na:jd K C f) (z:fs.length<1000) (q:∀ l H',H l=none→H' l=some (.lst [])→H' a=some (.ins C dx (putF f (.ref l) fs))→(∀ b,b≠a→b≠l→H' b=H b)→D.nx σ H'):sFld K (tVar 0) (tLst tNil) f D σ H:=by
  refine⟨Nat.zero_le _,fun l hl=>⟨.ref a,h0,a,C,dx,fs,rfl,?_,cl,na,z,q l _ hl ?_ zh fun b n1 n2=>?_⟩⟩
  · have n:a≠l:=fun e=>by rw [←e,ha] at hl;cases hl
    exact(zd n).trans ha
  · have n:l≠a:=fun e=>by rw [e,ha] at hl;cases hl
    exact(zd n).trans zh
  · exact(zd n1).trans (zd n2)
theorem znZ (T:Txt c K mg):∃ f fd,Mk K LamW.C f∧FnOk P w K mg base (CXR P w) 1 f fd ["self"] zgz∧L2.Binds K fd ["self"] []:=by
  obtain⟨f,fd,F,mk⟩:=T.x_init;have S:FnScope ["self"] ["self"] (zf Za):=⟨rfl,rfl,rfl,by decide +kernel,rfl,by decide +kernel,by decide +kernel⟩
  refine⟨f,fd,mk,F.okR S (fun vs H Q E h=>?_) (fun cdv A outer s H vs Q E hr h=>?_),F.binds fun _ _ _ _ _ _ us hl=>by obtain⟨_,rfl⟩:=zV hl;rfl⟩
  · obtain⟨_,_,rfl,_⟩:=h;rfl
  refine⟨_,Jw (JH (pv 0) (jT zQ) rfl) (Jw (JH (pv 0) (jT zQ) rfl) (Jw (JH (pv 0) (jT zQ) rfl) (Jw (JH (pv 0) (jT zQ) rfl) (Jw (JH (pv 0) (jT zQ) rfl) (zby (JH (pv 0) zdz rfl)))))),?_⟩
  obtain⟨a,dx,rfl,ha,q⟩:=h;have cl:=T.cl_D;refine zaT (a:=a) rfl ha cl T.na_names (by decide) fun l1 H1 n1 e1 a1 o1=>?_
  refine zaT (a:=a) rfl a1 cl T.na_weights (show 1<1000 by decide) fun l2 H2 n2 e2 a2 o2=>?_
  refine zaT (a:=a) rfl a2 cl T.na_bounds (show 2<1000 by decide) fun l3 H3 n3 e3 a3 o3=>?_
  refine zaT (a:=a) rfl a3 cl T.na_spells (show 3<1000 by decide) fun l4 H4 n4 e4 a4 o4=>?_
  refine zaT (a:=a) rfl a4 cl T.na_rules (show 4<1000 by decide) fun l5 H5 n5 e5 a5 o5=>?_
  have ne:∀ {H:Hp} {l:Addr} {o:HO},H a=some o→H l=none→l≠a:=fun h1 h2 z=>by rw [z,h1] at h2;cases h2
  have nn:∀ {H:Hp} {l l':Addr} {o:HO},H l=some o→H l'=none→l'≠l:=fun h1 h2 z=>by rw [z,h1] at h2;cases h2
  have g1:=ne ha n1;have g2:=ne a1 n2;have g3:=ne a2 n3;have g4:=ne a3 n4;have g5:=ne a4 n5;have p21:=nn e1 n2;have e1':H2 l1=some (.lst []):=(o2 l1 g1 p21.symm).trans e1;have p31:=nn e1' n3;have p32:=nn e2 n3;have e1'':H3 l1=some (.lst []):=(o3 l1 g1 p31.symm).trans e1';have e2':H3 l2=some (.lst []):=(o3 l2 g2 p32.symm).trans e2;have p41:=nn e1'' n4;have p42:=nn e2' n4;have p43:=nn e3 n4;have e1c:H4 l1=some (.lst []):=(o4 l1 g1 p41.symm).trans e1''
  have e2c:H4 l2=some (.lst []):=(o4 l2 g2 p42.symm).trans e2';have e3c:H4 l3=some (.lst []):=(o4 l3 g3 p43.symm).trans e3;have p51:=nn e1c n5;have p52:=nn e2c n5;have p53:=nn e3c n5;have p54:=nn e4 n5;have e1d:H5 l1=some (.lst []):=(o5 l1 g1 p51.symm).trans e1c;have e2d:H5 l2=some (.lst []):=(o5 l2 g2 p52.symm).trans e2c;have e3d:H5 l3=some (.lst []):=(o5 l3 g3 p53.symm).trans e3c;have e4d:H5 l4=some (.lst []):=(o5 l4 g4 p54.symm).trans e4
  refine⟨.ref a,rfl,a,LamW.C,dx,_,rfl,a5,cl,T.na_row,(show 5<1000 by decide),?_⟩
  have back:∀ {G G':Hp} {l x:Addr},(∀ b,b≠a→b≠l→G' b=G b)→x≠a→x≠l→G' x=none→G x=none:=fun o h1 h2 h=>(o _ h1 h2).symm.trans h
  have f2:H l2=none:=back o1 g2 p21 n2;have f3:H l3=none:=back o1 g3 p31 (back o2 g3 p32 n3);have f4:H l4=none:=back o1 g4 p41 (back o2 g4 p42 (back o3 g4 p43 n4));have f5:H l5=none:=back o1 g5 p51 (back o2 g5 p52 (back o3 g5 p53 (back o4 g5 p54 n5)));refine q l1 l2 l3 l4 l5 _ ?_ (fun l hl=>?_) (fun b u hb hu=>?_) zh
  · simp only [List.nodup_cons,List.mem_cons,List.not_mem_nil,or_false,not_or,not_false_eq_true,List.nodup_nil,and_true]
    exact⟨⟨g1.symm,g2.symm,g3.symm,g4.symm,g5.symm⟩,⟨p21.symm,p31.symm,p41.symm,p51.symm⟩,⟨p32.symm,p42.symm,p52.symm⟩,⟨p43.symm,p53.symm⟩,p54.symm⟩
  · simp only [List.mem_cons,List.not_mem_nil,or_false] at hl
    rcases hl with rfl|rfl|rfl|rfl|rfl
    · exact⟨n1,(zd g1).trans e1d⟩
    · exact⟨f2,(zd g2).trans e2d⟩
    · exact⟨f3,(zd g3).trans e3d⟩
    · exact⟨f4,(zd g4).trans e4d⟩
    · exact⟨f5,(zd g5).trans e5⟩
  · have nl:∀ {l:Addr},H l=none→b≠l:=fun h z=>by rw [z,h] at hu;cases hu
    rw [zd hb,o5 b hb (nl f5),o4 b hb (nl f4),o3 b hb (nl f3),o2 b hb (nl f2),o1 b hb (nl n1)];exact hu
section
variable (P:Program) (w:World) (K:PySem.W.Frag) (mg:Str→Option Value) (base:Heap)
abbrev zcS (c:Law.Cl):=Df3 P w K mg base 1 "_law_cell_at" ["_law_script", "_law_k"] zaS
abbrev JB (c:Law.Cl):=DfR P w K mg base 1 "_law_digit" ["_law_bag", "_law_many"] zav
abbrev zca (c:Law.Cl):=DfR P w K mg base 1 "_law_turns" ["_law_model"] zbj
abbrev zck (c:Law.Cl):=DfR P w K mg base 2 "_law_weight" ["_law_bag"] zaL
abbrev zd4 (c:Law.Cl):=Df3 P w K mg base 1 "_law_low" ["_law_top", "_law_bottom"] za8
abbrev zeg (c:Law.Cl):=DfR P w K mg base 2 "_law_limit" ["_law_bag"] zaI
abbrev zcf (c:Law.Cl):=Df3 P w K mg base 1 "_law_text" ["_law_one"] zao
abbrev zd5 (c:Law.Cl):=DfO P w K mg base 3 "_law_of_clan" ["_law_model", "_law_kind", "_law_bag"] zaF
abbrev zbD (c:Law.Cl):=DfR P w K mg base 2 "_law_shown" ["_law_model"] zbb
abbrev zeb (c:Law.Cl):=Df3 P w K mg base 1 "_law_name" ["_law_k", "_law_cell"] zap
abbrev zcy (c:Law.Cl):=Df3 P w K mg base 2 "_law_fresh" ["_law_names", "_law_cell"] zbd
abbrev zcO (c:Law.Cl):=DfO P w K mg base 3 "_law_new_clan" ["_law_model", "_law_bag"] zaa
abbrev zcZ (c:Law.Cl):=DfO P w K mg base 2 "_law_of_turns" ["_law_model", "_law_kind", "_law_bag"] Z5
abbrev zcw (c:Law.Cl):=DfO P w K mg base 4 "_law_deed" ["_law_model", "_law_bag"] Zm
abbrev zd0 (c:Law.Cl):=Df3 P w K mg base 1 "words_of" ["line"] ZV
abbrev zdi (c:Law.Cl):=Df3 P w K mg base 1 "form_of" ["words"] ZY
abbrev zdA (c:Law.Cl):=Df3 P w K mg base 1 "check_form" ["words", "form"] zay
abbrev zc7 (c:Law.Cl):=Df3 P w K mg base 1 "clan_of" ["word", "names"] zbt
abbrev zbI (c:Law.Cl):=Df3 P w K mg base 1 "is_made_of" ["word", "signs", "longest"] ZX
abbrev zcv (c:Law.Cl):=Df3 P w K mg base 2 "number_of" ["word"] zaM
abbrev zbO (c:Law.Cl):=Df3 P w K mg base 1 "number_in" ["figures"] (zae c)
abbrev zda (c:Law.Cl):=Df3 P w K mg base 2 "top_in" ["text"] (zaX c)
abbrev zdW (c:Law.Cl):=Df3 P w K mg base 1 "common_divisor" ["one", "other"] ZW
abbrev zcu (c:Law.Cl):=Df3 P w K mg base 1 "is_whole" ["value"] zax
abbrev zcX (c:Law.Cl):=Df3 P w K mg base 2 "ratio" ["top", "bottom"] za9
abbrev zbN (c:Law.Cl):=Df3 P w K mg base 1 "shown" ["one"] zaH
abbrev zdE (c:Law.Cl):=Df3 P w K mg base 3 "read" ["text"] (ZZ c)
abbrev zcD (c:Law.Cl):=Df3 P w K mg base 2 "new_name" ["word"] zbc
abbrev zc6 (c:Law.Cl):=Df3 P w K mg base 4 "value_of" ["kind", "word", "names"] zaG
abbrev zc1 (c:Law.Cl):=Df3 P w K mg base 5 "values_of" ["words", "names"] zbp
abbrev zdy (c:Law.Cl):=DfO P w K mg base 1 "tell_clan" ["desk", "values"] ZN
abbrev zcx (c:Law.Cl):=DfO P w K mg base 1 "tell_weight" ["desk", "values"] Zd
abbrev zec (c:Law.Cl):=DfO P w K mg base 1 "tell_merge" ["desk", "values"] ZM
abbrev zcT (c:Law.Cl):=Df3 P w K mg base 1 "check_weights" ["weights"] (za4 c)
abbrev J4 (c:Law.Cl):=Df3 P w K mg base 1 "all_turns" ["spells"] zbh
abbrev zdV (c:Law.Cl):=Df3 P w K mg base 2 "check_spells" ["spells"] (Z7 c)
abbrev zcG (c:Law.Cl):=DfO P w K mg base 3 "tell_turns" ["desk", "values"] ZQ
abbrev zdX (c:Law.Cl):=Df3 P w K mg base 1 "less" ["one", "other"] zaE
abbrev zcM (c:Law.Cl):=Df3 P w K mg base 2 "check_bounds" ["bounds", "clans"] (zbi c)
abbrev zem (c:Law.Cl):=DfO P w K mg base 3 "tell_bound" ["desk", "values"] Zg
abbrev zb8 (c:Law.Cl):=Df3 P w K mg base 1 "check_turn" ["turn", "turns"] (zaC c)
abbrev zb5 (c:Law.Cl):=DfO P w K mg base 2 "add_rule" ["desk", "word", "turn", "clan"] zal
abbrev zc5 (c:Law.Cl):=DfO P w K mg base 3 "tell_fix" ["desk", "values"] Ze
abbrev zdD (c:Law.Cl):=DfO P w K mg base 3 "tell_bar" ["desk", "values"] ZG
abbrev zd6 (c:Law.Cl):=DfO P w K mg base 2 "tell_free" ["desk", "values"] ZB
abbrev zdw (c:Law.Cl):=Df3 P w K mg base 1 "check_row" ["row", "turns", "clans"] (zak c)
abbrev zcq (c:Law.Cl):=DfO P w K mg base 2 "tell_row" ["desk", "values"] Zc
abbrev zc0 (c:Law.Cl):=DfO P w K mg base 1 "tell_clear" ["desk", "values"] J7
abbrev zdM (c:Law.Cl):=DfR P w K mg base 2 "shown_clan" ["desk", "clan"] zar
abbrev zei (c:Law.Cl):=DfR P w K mg base 1 "shown_rule" ["desk", "rule"] zaz
abbrev zcQ (c:Law.Cl):=Df3 P w K mg base 1 "numbers_in" ["numbers"] zaZ
abbrev zdB (c:Law.Cl):=DfR P w K mg base 1 "names_of" ["desk", "row"] Z2
abbrev zc3 (c:Law.Cl):=DfR P w K mg base 3 "answer_show" ["desk", "values"] Zb
abbrev zdH (c:Law.Cl):=DfO P w K mg base 7 "_law_answers" ["_law_desk", "_law_some", "_law_due", "_law_seed"] Zh
abbrev zcz (c:Law.Cl):=∃ f fd,Meth K LamW.C "say" f∧FnOk P w K mg base (CXR P w) 6 f fd ["self", "line"] (spO K JU)∧Binds K fd ["self", "line"] []
end
local macro_rules | `(tactic| walk_at $w:str)=>do
    let ws:=w.getString.splitOn " "
    if ws.head? == some "o" then return (←`(tactic| first|exact Or.inl rfl|exact Or.inr rfl|exact Or.inr (Or.inl rfl)|exact Or.inr (Or.inr rfl)))
    if ws.head? == some "s" then return (←`(tactic| refine ZL fun $(Lean.mkIdent `N) $(Lean.mkIdent `hN)=>?_))
    if ws.head? == some "n" then return (←`(tactic| (refine $(Lean.mkIdent `hN) _ ?_;clear $(Lean.mkIdent `hN) $(Lean.mkIdent `N))))
    if ws.head? == some "t" then return (←`(tactic| (clear $(Lean.mkIdent `hN) $(Lean.mkIdent `N);refine ZL fun $(Lean.mkIdent `N) $(Lean.mkIdent `hN)=>?_)))
    if ws.head? == some "u" then return (←`(tactic| (refine $(Lean.mkIdent `hN) _ ?_;clear $(Lean.mkIdent `hN) $(Lean.mkIdent `N);refine ZL fun $(Lean.mkIdent `N) $(Lean.mkIdent `hN)=>?_)))
    if ws.head? == some "q" then return (←`(tactic| (refine ZL fun $(Lean.mkIdent `N) $(Lean.mkIdent `hN)=>?_;walk_at "rd")))
    if ws.head? == some "v" then return (←`(tactic| (refine $(Lean.mkIdent `hN) _ ?_;clear $(Lean.mkIdent `hN) $(Lean.mkIdent `N);refine ZL fun $(Lean.mkIdent `N) $(Lean.mkIdent `hN)=>?_;walk_at "rd")))
    if ws.head? == some "w" then return (←`(tactic| (clear $(Lean.mkIdent `hN) $(Lean.mkIdent `N);refine ZL fun $(Lean.mkIdent `N) $(Lean.mkIdent `hN)=>?_;walk_at "rd")))
    if ws.head? == some "l" then return (←`(tactic| first|(obtain⟨_,$(Lean.mkIdent `rfl):ident,_⟩:=$(Lean.mkIdent `h);rfl)|(obtain⟨_,_,$(Lean.mkIdent `rfl):ident,_⟩:=$(Lean.mkIdent `h);rfl)|(obtain⟨_,_,_,$(Lean.mkIdent `rfl):ident,_⟩:=$(Lean.mkIdent `h);rfl)|(obtain⟨_,_,_,_,$(Lean.mkIdent `rfl):ident,_⟩:=$(Lean.mkIdent `h);rfl)|(obtain⟨_,_,_,_,_,$(Lean.mkIdent `rfl):ident,_⟩:=$(Lean.mkIdent `h);rfl)|(obtain⟨_,_,_,_,_,_,$(Lean.mkIdent `rfl):ident,_⟩:=$(Lean.mkIdent `h);rfl)))
    if ws.head? == some "d" then return (←`(tactic| refine⟨fun $(Lean.mkIdent `ds) $(Lean.mkIdent `Q) $(Lean.mkIdent `Q') $(Lean.mkIdent `E) $(Lean.mkIdent `E') $(Lean.mkIdent `hQ) $(Lean.mkIdent `hE) $(Lean.mkIdent `h)=>?_,⟨$(Lean.mkIdent `f),$(Lean.mkIdent `fd),fn3 $(Lean.mkIdent `F) $(Lean.mkIdent `S) (fun $(Lean.mkIdent `ds) $(Lean.mkIdent `Q) $(Lean.mkIdent `E) $(Lean.mkIdent `h)=>?_) (fun $(Lean.mkIdent `cdv) $(Lean.mkIdent `A) $(Lean.mkIdent `outer) $(Lean.mkIdent `s) $(Lean.mkIdent `H) $(Lean.mkIdent `E) $(Lean.mkIdent `E3) $(Lean.mkIdent `hE) $(Lean.mkIdent `hr)=>?_),$(Lean.mkIdent `F.binds) fun _ _ _ _ _ _ us hl=>by first|(obtain⟨_,$(Lean.mkIdent `rfl):ident⟩:=zV hl;rfl)|(obtain⟨_,_,$(Lean.mkIdent `rfl):ident⟩:=zF hl;rfl)|(obtain⟨_,_,_,$(Lean.mkIdent `rfl):ident⟩:=J6 hl;rfl)|(obtain⟨_,_,_,_,$(Lean.mkIdent `rfl):ident⟩:=zdf hl;rfl)|(obtain⟨_,_,_,_,_,$(Lean.mkIdent `rfl):ident⟩:=arity5 hl;rfl),$(Lean.mkIdent `F.kp),$(Lean.mkIdent `hm)⟩⟩))
    if ws.head? == some "m" then return (←`(tactic| (revert $(Lean.mkIdent `h);repeat' (first|exact fun h=>h|exact $(Lean.mkIdent `hQ) _ _|exact $(Lean.mkIdent `hQ) _ _ _|exact $(Lean.mkIdent `hE) _|refine Exists.imp fun _=>?_|refine And.imp ?_ ?_|refine forall_imp fun _=>?_))))
    if ws.head? == some "g" then return (←`(tactic| ((try dsimp only [gn3,List.cons_append,List.nil_append,List.set_cons_zero,List.set_cons_succ,zx,Bool.false_or,Bool.true_or]);try simp only [gn3,List.cons_append,List.nil_append,List.set_cons_zero,List.set_cons_succ,zx,Bool.or_true])))
    unless ws.head? == some "rd" do Lean.Macro.throwUnsupported
    let ds ←("seq3,next3,set3,own3,ret3,ifS3,tt3,o3,u3,v3,atV,asS,asB,asD,optP,asT,asLd,asL,atO,J5,nilP,asId,asI,k3,nw3,add3,int3,int0,neg3,eq3,ne3,eqOk,eqv3,notN3,isNone,ix3,ixD,Je,nil3,za2,cb3,len3,lenD,abs3,max23,min23,sum3,all3,and3,or3,not3,zbs,za7,ch3,tup3,lst3,Z9,catN,slL3,no3,zaP,zaK,L2.isD,Z4,gn3,ZC,JG,gnil3,app3,put3,frzS,frz,frz1,for3,itL,itT,itS,rg1,rg2,JL,true3,cst3,zac,strI3,j7,shs,Cl.d,Cl.dat,Cl.f,zx,Option.map_some,Option.map_none,Option.isSome_some,Option.isSome_none,Option.join_some,Option.join_none,List.all_cons,List.all_nil,Bool.true_and,Bool.false_or,Bool.true_or,List.map_cons,List.map_nil,List.length_cons,List.length_nil,Nat.reduceAdd,Nat.reduceSub,List.replicate,List.cons_append,List.nil_append,List.getElem?_cons_zero,List.getElem?_cons_succ,List.set_cons_zero,List.set_cons_succ,Bool.not_true,Bool.not_false,intS3,stS3,ptS3,slS3,fs3,atF,atB,flO,flT,fld3,ZU,zaA,zag,zbm,JY,JK,ftp3,zaO,zbn,Ob.put,Fl.c,Fl.d,isBg,Zq,zaf,Zf,okA,argC,argR,jH,zah,jX,Jr,atL,jB,zbg,Zy,zaN,zas,Z0,ifX3,J3,zam,za5,zaR,newM,newD,jr,spN,jn3,mulS3,inL3,zbf,Z6,intB3,itET,za6,zbq,zba,ans3,spRO,k3f,thF,Option.isSome,List.map,zaS,zav,zbj,zaL,za8,zaI,zao,zaF,zbb,zap,zbd,zaa,Z5,Zm,ZV,ZY,zay,zbt,ZX,zaM,zae,zaX,ZW,zax,za9,zaH,ZZ,zbc,zaG,zbp,ZN,Zd,ZM,za4,zbh,Z7,ZQ,zaE,zbi,Zg,zaC,zal,Ze,ZG,ZB,zak,Zc,J7,zar,zaz,zaZ,Z2,Zb,JU,Zh,J0,isBg".splitOn ",").toArray.mapM fun s=>`(Lean.Parser.Tactic.simpLemma| $(Lean.mkIdent s.toName):term)
    let rs ←(("Bool.and_true,Bool.and_self,Bool.or_false,Bool.or_true,Nat.sub_self,List.append_nil,Option.some.injEq,Cl.sh.injEq,PyData.int.injEq,PyData.bool.injEq,PyData.str.injEq,PyData.list.injEq,PyData.tuple.injEq,List.cons.injEq,reduceCtorEq,and_assoc,and_true,true_and,and_self,exists_eq_left,exists_eq_left',exists_eq',exists_eq_right,exists_eq_right',exists_and_left,exists_const,exists_false,false_and,and_false,or_false,false_or,or_true,true_or,decide_true,decide_false,decide_eq_true_eq,Bool.false_eq_true,Bool.true_eq_false,if_true,if_false,ite_true,ite_false,Bool.not_eq_true',decide_eq_false_iff_not,eq_self_iff_true,not_true_eq_false,not_false_eq_true,sz0,sz1,sz2,sz3,sz4,sz7,sz9,nols,nol,Option.bind_some,Cl.fo.injEq,Ob.mk.injEq,Fl.ow.injEq,Fl.sh.injEq,List.all_map,dI,dSs,dS,dQ,dP,dPs,dSt,dTt,jK,OK,dRD,jp,jt,modO".splitOn ",")++ws.tail).toArray.mapM fun s=>`(Lean.Parser.Tactic.simpLemma| $(Lean.mkIdent s.toName):term)
    let ls:=ds++rs
    `(tactic| ((try dsimp only [$ds:simpLemma,*]);try simp (config:={ maxSteps:=2000000 }) only [$ls:simpLemma,*]))
theorem zk6 (T:Txt c K mg) : zcS P w K mg base c:=by
  obtain⟨f,fd,F,hm⟩:=T.d_law_cell_at;have S:FnScope ["_law_script", "_law_k"] ["_law_script", "_law_k"] (zf zhq):=⟨rfl,rfl,rfl,by decide +kernel,rfl,by decide +kernel,by decide +kernel⟩
  refine⟨fun ds Q Q' E E' hQ hE h=>?_,⟨f,fd,fn3 F S (fun ds Q E h=>?_) (fun cdv A outer s H E E3 hE hr=>?_),F.binds fun _ _ _ _ _ _ us hl=>by obtain⟨_,_,rfl⟩:=zF hl;rfl,F.kp,hm⟩⟩
  · walk_at "m"
  · walk_at "l"
  refine⟨_,(zc (s_if (zj jG (n3 1) (zw zL rfl T.n_len zM (za (n3 0) zb)) (nomark _)) (ze (zn (at3 (n3 0) (n3 1) (fun _ _=>rfl)))) zk)
    (ze (zn i3))),fun ds Q h=>?_⟩
  obtain⟨ns,rfl,q⟩:=h
  walk_at "rd"
  cases ns with
  | nil=>exact q 0
  | cons n r=>rw [if_pos (by simp)];exact⟨_,atI0,q n⟩
theorem zlr (T:Txt c K mg) : JB P w K mg base c:=by
  obtain⟨f,fd,F,hm⟩:=T.d_law_digit;have S:FnScope ["_law_bag", "_law_many", "_law_found"] ["_law_bag", "_law_many"] (zf zeY):=⟨rfl,rfl,rfl,by decide +kernel,rfl,by decide +kernel,by decide +kernel⟩
  refine⟨fun cs Q Q' hQ h=>?_,⟨f,fd,fnR F S (fun cs Q h=>?_) (fun cdv A outer s H E E3 hE hr=>?_),F.binds fun _ _ _ _ _ _ us hl=>by obtain⟨_,_,rfl⟩:=zF hl;rfl,F.kp,hm⟩⟩
  · walk_at "m"
  · walk_at "l"
  refine⟨_,(zc (zl (i:=2) S.nd rfl (by walk_at "o") (op3 zN (zd9 (i:=0) rfl (by walk_at "o")) (n3 1)))
    (zc (zkF (i:=0) rfl (by walk_at "o") (op3 jn (zd9 (i:=0) rfl (by walk_at "o")) (n3 1)))
    (ze (zn (n3 2))))),fun cs Q h=>?_⟩
  obtain⟨m,rfl,hm,hb,q⟩:=h
  walk_at "rd"
  exact fun n=>⟨hm,fun n'=>⟨⟨hm,hb⟩,q _ ⟨Int.emod_nonneg _ (by omega),Int.emod_lt_of_pos _ hm⟩⟩⟩
theorem zi6 (T:Txt c K mg) : zca P w K mg base c:=by
  obtain⟨f,fd,F,hm⟩:=T.d_law_turns;have S:FnScope ["_law_model"] ["_law_model"] (zf zd7):=⟨rfl,rfl,rfl,by decide +kernel,rfl,by decide +kernel,by decide +kernel⟩
  refine⟨fun cs Q Q' hQ h=>?_,⟨f,fd,fnR F S (fun cs Q h=>?_) (fun cdv A outer s H E E3 hE hr=>?_),F.binds fun _ _ _ _ _ _ us hl=>by obtain⟨_,rfl⟩:=zV hl;rfl,F.kp,hm⟩⟩
  · walk_at "m"
  · walk_at "l"
  refine⟨_,(ze (zn (zw (zbP rfl) rfl T.n_sum zbW (za (new3 (jA ["_law_spell"] [] [] rfl (jI (osc:=zf zd7) (by decide +kernel)) rfl (z9 (zm (zq (i:=0) (j:=3) (zo hr) rfl (by walk_at "o") rfl))) (fun H0 s H fp cl=>⟨(zr (i:=0) (show((["_law_spell"]:List PySem.Str)++([]:List PySem.Str)).Nodup by decide) rfl (by walk_at "o")),Jm,(at3 (n3 0) i3 (fun _ _=>rfl))⟩))) zb)))),fun cs Q h=>?_⟩
  obtain⟨S,rfl,g,q⟩:=h;have hs:=g.s
  walk_at "rd"
  refine⟨by rw [List.length_map];exact sz (by omega),?_⟩
  refine Jp dSM (fun s=>PyData.int s.1) (fun ρ=>∃ t,ρ = [t]) _ (fun s _ ρ fa acc K hR hK=>?_) _ _ _ _ ⟨_,rfl⟩ ?_
  · obtain⟨t,rfl⟩:=hR
    walk_at "rd dSM atI0"
    exact hK _ ⟨_,rfl⟩
  · rw [List.nil_append]
    refine⟨S.spells.map fun s:Spell=>s.1,?_,q⟩
    rw [show(S.spells.map fun s=>PyData.int s.1)=(S.spells.map (·.1)).map PyData.int by rw [List.map_map];rfl]
    exact JN _
theorem zn5 (T:Txt c K mg) (zpe:JB P w K mg base c):zck P w K mg base c:=by
  obtain⟨f,fd,F,hm⟩:=T.d_law_weight;have S:FnScope ["_law_bag"] ["_law_bag"] (zf zg6):=⟨rfl,rfl,rfl,by decide +kernel,rfl,by decide +kernel,by decide +kernel⟩
  refine⟨fun cs Q Q' hQ h=>?_,⟨f,fd,fnR F S (fun cs Q h=>?_) (fun cdv A outer s H E E3 hE hr=>?_),F.binds fun _ _ _ _ _ _ us hl=>by obtain⟨_,rfl⟩:=zV hl;rfl,F.kp,hm⟩⟩
  · walk_at "m"
  · obtain⟨rfl,_⟩:=h;rfl
  refine⟨_,(zc (s_if (zj (zD hr.units) (dfR zpe (hr.mono (by decide)) rfl zg (za (n3 0) (za i3 zb))) i3 (nomark _)) (ze (zn (dfR zpe (hr.mono (by decide)) rfl zg (za (n3 0) (za (op3 zdk i3 i3) zb))))) zk)
    (ze (zn (dfR zpe (hr.mono (by decide)) rfl zg (za (n3 0) (za i3 zb)))))),fun cs Q h=>?_⟩
  obtain⟨rfl,q⟩:=h
  walk_at "rd"
  refine⟨by decide,Bits.lit (x:=3) 64 |>.mono (by decide),fun n _=>?_⟩
  split
  · exact⟨⟨by decide,by decide +kernel⟩,by decide,Bits.lit (x:=10 ^ 12) 64 |>.mono (by decide),fun n hn=>q n hn⟩
  · exact⟨by decide,Bits.lit (x:=13) 64 |>.mono (by decide),fun n hn=>q n ⟨hn.1,by have:=hn.2;have:(13:Int)≤10 ^ 12:=(by decide);omega⟩⟩
theorem zlL (T:Txt c K mg) : zd4 P w K mg base c:=by
  obtain⟨f,fd,F,hm⟩:=T.d_law_low;have S:FnScope ["_law_top", "_law_bottom", "_law_one", "_law_other", "_law_rest"] ["_law_top", "_law_bottom"] (zf zfy):=⟨rfl,rfl,rfl,by decide +kernel,rfl,by decide +kernel,by decide +kernel⟩
  refine⟨fun ds Q Q' E E' hQ hE h=>?_,⟨f,fd,fn3 F S (fun ds Q E h=>?_) (fun cdv A outer s H E E3 hE hr=>?_),F.binds fun _ _ _ _ _ _ us hl=>by obtain⟨_,_,rfl⟩:=zF hl;rfl,F.kp,hm⟩⟩
  · walk_at "m"
  · walk_at "l"
  refine⟨_,(zc (zl (i:=2) S.nd rfl (by walk_at "o") (n3 0))
    (zc (zl (i:=3) S.nd rfl (by walk_at "o") (n3 1))
    (zc (zgh PassesOwn.leaving (zj J1 (n3 3) i3 (nomark _)) (zc (zl (i:=4) S.nd rfl (by walk_at "o") (op3 zN (n3 2) (n3 3)))
      (zc (zl (i:=2) S.nd rfl (by walk_at "o") (n3 3))
      (ze (zl (i:=3) S.nd rfl (by walk_at "o") (n3 4))))))
    (ze (zn (jq (za (op3 jn (n3 0) (n3 2)) (za (op3 jn (n3 1) (n3 2)) zb)))))))),fun ds Q h=>?_⟩
  obtain⟨a,b,rfl,ha,hb,hB,q⟩:=h
  walk_at "rd"
  refine⟨_,zeo (fun n ρ=>∃ g l r,ρ = [some (.sh true (.int a)),some (.sh true (.int b)),some (.sh true (.int g)),some (.sh true (.int l)),r]∧0≤g∧0≤l∧Int.gcd g l=Int.gcd a b∧n=l.toNat) ?_ _ _ ⟨_,_,_,rfl,ha,by omega,rfl,rfl⟩⟩
  rintro n ρ ⟨g,l,r,rfl,hg,hl,hG,rfl⟩ W hW
  walk_at "rd"
  by_cases h0:l=0
  · rw [if_neg (by omega)]
    subst h0;rw [←hG,zdP hg] at q;have e:g=(Int.gcd a b:Int):=by rw [←hG,zdP hg]
    have d:=zdZ (x:=a) (a:=a) hb hB;rw [←e] at d;exact⟨d,d,q⟩
  · have hp:0<l:=by omega
    rw [if_pos hp];have h1:=Int.emod_nonneg g h0;have h2:=Int.emod_lt_of_pos g hp;exact⟨hp,hW (g%l).toNat _ (by omega) ⟨l,g%l,_,rfl,hl,h1,(zgQ hg hp).trans hG,rfl⟩⟩
theorem zkK (T:Txt c K mg) (zph:zd4 P w K mg base c) (zpe:JB P w K mg base c):zeg P w K mg base c:=by
  obtain⟨f,fd,F,hm⟩:=T.d_law_limit;have S:FnScope ["_law_bag", "_law_bottom"] ["_law_bag"] (zf zgP):=⟨rfl,rfl,rfl,by decide +kernel,rfl,by decide +kernel,by decide +kernel⟩
  refine⟨fun cs Q Q' hQ h=>?_,⟨f,fd,fnR F S (fun cs Q h=>?_) (fun cdv A outer s H E E3 hE hr=>?_),F.binds fun _ _ _ _ _ _ us hl=>by obtain⟨_,rfl⟩:=zV hl;rfl,F.kp,hm⟩⟩
  · walk_at "m"
  · obtain⟨rfl,_⟩:=h;rfl
  refine⟨_,(zc (zl (i:=1) S.nd rfl (by walk_at "o") (op3 zu i3 (dfR zpe (hr.mono (by decide)) rfl zg (za (n3 0) (za i3 zb)))))
    (ze (zn (df3 hE zph (hr.mono (by decide)) rfl zg (za (dfR zpe (hr.mono (by decide)) rfl zg (za (n3 0) (za (op3 zu (op3 jz i3 (n3 1)) i3) zb))) (za (n3 1) zb)))))),fun cs Q h=>?_⟩
  obtain⟨rfl,q⟩:=h
  walk_at "rd"
  refine⟨by decide,Bits.lit (x:=60) 64 |>.mono (by decide),fun n hn=>⟨IntMulOk.of_left (by decide +kernel),by have:=hn.1;omega,(Bits.lit (x:=10*(1+n)+1) 64 (by have:=hn.1;have:=hn.2;omega)).mono (by decide),fun m hm=>⟨hm.1,by have:=hn.1;omega,(Bits.lit (x:=1+n) 64 (by have:=hn.1;have:=hn.2;omega)).mono (by decide),?_⟩⟩⟩
  exact zkT hm.1 hn.1 hn.2 hm.2 q
theorem zoI (T:Txt c K mg) : zcf P w K mg base c:=by
  obtain⟨f,fd,F,hm⟩:=T.d_law_text;have S:FnScope ["_law_one"] ["_law_one"] (zf zeu):=⟨rfl,rfl,rfl,by decide +kernel,rfl,by decide +kernel,by decide +kernel⟩
  refine⟨fun ds Q Q' E E' hQ hE h=>?_,⟨f,fd,fn3 F S (fun ds Q E h=>?_) (fun cdv A outer s H E E3 hE hr=>?_),F.binds fun _ _ _ _ _ _ us hl=>by obtain⟨_,rfl⟩:=zV hl;rfl,F.kp,hm⟩⟩
  · walk_at "m"
  · walk_at "l"
  refine⟨_,(zc (s_if (zj (zD hr.units) (at3 (n3 0) i3 (fun _ _=>rfl)) i3 (nomark _)) (ze (zn (zZ ji rfl T.n_str jg (za (at3 (n3 0) i3 (fun _ _=>rfl)) zb)))) zk)
    (ze (zn (op3 zu (op3 zu (zZ ji rfl T.n_str jg (za (at3 (n3 0) i3 (fun _ _=>rfl)) zb)) s3) (zZ ji rfl T.n_str jg (za (at3 (n3 0) i3 (fun _ _=>rfl)) zb)))))),fun ds Q h=>?_⟩
  obtain⟨a,b,rfl,ha,hb,q⟩:=h
  walk_at "rd atI0 atI1"
  have la:=ha.log2 (by decide)
  have lb:=hb.log2 (by decide)
  have na:=zcd ha;have nb:=zcd hb;rw [jc a,jc b,zc8,Js,Js,zp,zp,zp,zp];unfold txR at q
  by_cases h1:b=1
  · rw [if_pos h1] at q ⊢
    exact⟨by omega,q⟩
  · rw [if_neg h1] at q ⊢
    refine⟨by omega,sz ?_,by omega,sz ?_,?_⟩
    · simp only [List.length_cons,List.length_nil];omega
    · rw [List.length_append];simp only [List.length_cons,List.length_nil];omega
    · rw [List.append_assoc];exact q
theorem zmq (T:Txt c K mg) (zpe:JB P w K mg base c) (zpp:zck P w K mg base c) (zpg:zeg P w K mg base c) (zpn:zcf P w K mg base c):zd5 P w K mg base c:=by
  obtain⟨f,fd,F,hm⟩:=T.d_law_of_clan;have S:FnScope ["_law_model", "_law_kind", "_law_bag", "_law_k", "_law_name_here", "_law_other"] ["_law_model", "_law_kind", "_law_bag"] (zf zeR):=⟨rfl,rfl,rfl,by decide +kernel,rfl,by decide +kernel,by decide +kernel⟩
  refine⟨fun o cs Q Q' hQ h=>?_,⟨f,fd,fnO F S (fun o cs Q h=>?_) (fun cdv A outer s H H0 E E3 hE hr=>?_),F.binds fun _ _ _ _ _ _ us hl=>by obtain⟨_,_,_,rfl⟩:=J6 hl;rfl,F.kp,hm⟩⟩
  · walk_at "m"
  · obtain⟨_,_,_,_,rfl,_⟩:=h;rfl
  refine⟨_,(zc (zl (i:=3) S.nd rfl (by walk_at "o") (dfR zpe (hr.mono (by decide)) rfl zg (za (n3 2) (za (zw zL rfl T.n_len zM (za (zm (zq (i:=0) (j:=0) (zo hr) rfl (by walk_at "o") rfl)) zb)) zb))))
    (zc (zl (i:=4) S.nd rfl (by walk_at "o") (at3 (zm (zq (i:=0) (j:=0) (zo hr) rfl (by walk_at "o") rfl)) (n3 3) (fun _ _=>rfl)))
    (zc (s_if (zj (zD hr.units) (n3 1) i3 (nomark _)) (zc (JV (zq (i:=0) (j:=2) (zo hr) rfl (by walk_at "o") rfl) (n3 3) (new3 (zE (za (dfR zpg (hr.mono (by decide)) rfl zg (za (n3 2) zb)) (za (dfR zpg (hr.mono (by decide)) rfl zg (za (n3 2) zb)) zb)))))
      (ze (zU (new3 (zE (za s3 (za (n3 4) (za (df3 hE zpn (hr.mono (by decide)) rfl zg (za (at3 (at3 (zm (zq (i:=0) (j:=2) (zo hr) rfl (by walk_at "o") rfl)) (n3 3) (fun _ _=>rfl)) i3 (fun _ _=>rfl)) zb)) (za (df3 hE zpn (hr.mono (by decide)) rfl zg (za (at3 (at3 (zm (zq (i:=0) (j:=2) (zo hr) rfl (by walk_at "o") rfl)) (n3 3) (fun _ _=>rfl)) i3 (fun _ _=>rfl)) zb)) zb))))))))) zk)
    (zc (s_if (pw3 (Jh (zj (zD hr.units) (n3 1) i3 (nomark _)) (JE (zj J1 (zw zL rfl T.n_len zM (za (zm (zq (i:=0) (j:=0) (zo hr) rfl (by walk_at "o") rfl)) zb)) i3 (nomark _))))) (zc (zl (i:=5) S.nd rfl (by walk_at "o") (op3 zN (op3 zu (op3 zu (n3 3) i3) (dfR zpe (hr.mono (by decide)) rfl zg (za (n3 2) (za (op3 zbS (zw zL rfl T.n_len zM (za (zm (zq (i:=0) (j:=0) (zo hr) rfl (by walk_at "o") rfl)) zb)) i3) zb)))) (zw zL rfl T.n_len zM (za (zm (zq (i:=0) (j:=0) (zo hr) rfl (by walk_at "o") rfl)) zb))))
      (zc (JV (zq (i:=0) (j:=1) (zo hr) rfl (by walk_at "o") rfl) (n3 3) (op3 zu (at3 (zm (zq (i:=0) (j:=1) (zo hr) rfl (by walk_at "o") rfl)) (n3 3) (fun _ _=>rfl)) (at3 (zm (zq (i:=0) (j:=1) (zo hr) rfl (by walk_at "o") rfl)) (n3 5) (fun _ _=>rfl))))
      (zc (JV (zq (i:=0) (j:=1) (zo hr) rfl (by walk_at "o") rfl) (n3 5) i3)
      (ze (zU (new3 (zE (za s3 (za (n3 4) (za (at3 (zm (zq (i:=0) (j:=0) (zo hr) rfl (by walk_at "o") rfl)) (n3 5) (fun _ _=>rfl)) zb)))))))))) zk)
    (zc (JV (zq (i:=0) (j:=1) (zo hr) rfl (by walk_at "o") rfl) (n3 3) (dfR zpp (hr.mono (by decide)) rfl zg (za (n3 2) zb)))
    (ze (zU (new3 (zE (za s3 (za (n3 4) (za (zZ ji rfl T.n_str jg (za (at3 (zm (zq (i:=0) (j:=1) (zo hr) rfl (by walk_at "o") rfl)) (n3 3) (fun _ _=>rfl)) zb)) zb)))))))))))),fun o cs Q h=>?_⟩
  obtain⟨k,S,n,⟨a,l1,l2,l3,l4,l5,qs,fl,rfl,hfl⟩,rfl,I,hk,hl,q⟩:=h;have g:=I.good hk;have n8:=I.n
  walk_at "rd"
  rw [List.length_map,List.length_map];refine⟨by omega,(Bits.lit (x:=(S.names.length:Int)) 64 (by omega)).mono (by decide),fun i hi=>?_⟩
  obtain⟨i,rfl⟩:=Int.eq_ofNat_of_zero_le hi.1;have hi:i<S.names.length:=by have:=hi.2;omega
  have iL:i<S.lims.length:=by rw [I.l];exact hi
  have iW:i<S.ws.length:=by rw [I.w];exact hi
  refine⟨_,jb (jQ hi),?_⟩
  have wW:∀ m,zX m (10 ^ 12)→∃ m_1,ixN (S.ws.map PyData.int).length (i:Int)=some m_1∧∃ d,atI ((S.ws.map PyData.int).set m_1 (PyData.int m)) (i:Int)=some d∧d=.int m∧∀ f,Q ⟨none,a,[Fl.ow l1 (S.names.map .str),Fl.ow l2 ((S.ws.map PyData.int).set m_1 (PyData.int m)),Fl.ow l3 (S.lims.map dLm),Fl.tp l4 qs (S.spells.map mS),Fl.ow l5 (S.rules.map (dRM S)),fl]⟩ f (.list [.str "weight", .str (zv S i),.str (st (tl m))]):=fun m hm=>by
    refine⟨i,jD (by omega) (by rw [List.length_map];omega),_,Jb (List.getElem?_set_self (by rw [List.length_map];exact iW)),rfl,fun f=>?_⟩
    have e:=q (modO (S.weight i m) a l1 l2 l3 l4 l5 qs fl) _ (S.weight i m) rfl ⟨a,l1,l2,l3,l4,l5,qs,fl,rfl,hfl⟩ (znJ I hi hm) f;unfold modO St.weight at e;simp only [List.map_set] at e;exact e
  have logs:∀ m,zX m (10 ^ 12)→m.natAbs.log2<1920:=fun m hm=>Nat.lt_of_lt_of_le ((Inv.bits (k:=0) (by decide) (w:=m) (Zp hm)).log2 (by decide)) (by decide)
  by_cases h2:n=2
  · rw [if_pos h2]
    intro x y q1 q2 q3 q4 q5 x' y' r1 r2 r3 r4 r5;have em:((S.lims.map dLm).set i (dLm ((x,y),(x',y'))))[i]?=some (dLm ((x,y),(x',y'))):=List.getElem?_set_self (by rw [List.length_map];exact iL)
    refine⟨i,jD (by omega) (by omega),_,Jb em,_,atI0,x,y,rfl,q4.mono (by decide),q5.mono (by decide),_,Jb em,_,atI1,x',y',rfl,r4.mono (by decide),r5.mono (by decide),?_⟩
    have e:=q (modO (S.bound i ((x,y),(x',y'))) a l1 l2 l3 l4 l5 qs fl) _ (S.bound i ((x,y),(x',y'))) rfl ⟨a,l1,l2,l3,l4,l5,qs,fl,rfl,hfl⟩ (zke I hi ⟨q1,q2,q3,q4,q5⟩ ⟨r1,r2,r3,r4,r5⟩) (S.names.all (zx∘PyData.str)||true);unfold modO St.bound at e;simp only [List.map_set] at e;exact e
  · rw [if_neg h2]
    by_cases h3:n=3∧1<S.names.length
    · rw [if_pos h3.1,if_pos (by have:=h3.2;omega)]
      have l1':=h3.2;refine⟨by omega,(Bits.lit (x:=(S.names.length:Int) - 1) 64 (by omega)).mono (by decide),fun m hm=>⟨by omega,?_⟩⟩
      obtain⟨j,ej,hj,nj⟩:=znN hi hm;rw [ej];have jW:j<S.ws.length:=by rw [I.w];exact hj
      have e1:S.ws[i]?=some (S.ws.getD i 0):=zbQ g hi;have e2:S.ws[j]?=some (S.ws.getD j 0):=zbQ g hj;refine⟨_,jb e1,_,jb e2,?_⟩;refine⟨i,jD (by omega) (by rw [List.length_map];omega),j,jD (by omega) (by rw [List.length_set,List.length_map];omega),_,jb (jQ hj),?_⟩
      have e:=q (modO (S.merge i j (S.ws.getD i 0) (S.ws.getD j 0)) a l1 l2 l3 l4 l5 qs fl) _ (S.merge i j (S.ws.getD i 0) (S.ws.getD j 0)) rfl ⟨a,l1,l2,l3,l4,l5,qs,fl,rfl,hfl⟩ (zi7 I e1 e2 nj.symm);unfold modO St.merge at e;simp only [List.map_set] at e;exact e _
    · by_cases h3':n=3
      · rw [if_pos h3',if_neg (by intro z;exact h3 ⟨h3',by omega⟩)]
        intro m hm;obtain⟨m1,x1,d,x2,rfl,x3⟩:=wW m hm;exact⟨m1,x1,_,x2,logs m hm,by rw [jc];exact x3 _⟩
      · rw [if_neg h3']
        intro m hm;obtain⟨m1,x1,d,x2,rfl,x3⟩:=wW m hm;exact⟨m1,x1,_,x2,logs m hm,by rw [jc];exact x3 _⟩
theorem zmA (T:Txt c K mg) (zpn:zcf P w K mg base c):zbD P w K mg base c:=by
  obtain⟨f,fd,F,hm⟩:=T.d_law_shown;have S:FnScope ["_law_model", "_law_pieces", "_law_k", "_law_limit_here", "_law_words_of", "_law_length", "_law_weights", "_law_word", "_law_turn", "_law_name_here"] ["_law_model"] (zf zdr):=⟨rfl,rfl,rfl,by decide +kernel,rfl,by decide +kernel,by decide +kernel⟩
  refine⟨fun cs Q Q' hQ h=>?_,⟨f,fd,fnR F S (fun cs Q h=>?_) (fun cdv A outer s H E E3 hE hr=>?_),F.binds fun _ _ _ _ _ _ us hl=>by obtain⟨_,rfl⟩:=zV hl;rfl,F.kp,hm⟩⟩
  · walk_at "m"
  · walk_at "l"
  refine⟨_,(zc (zfe (i:=1) S.nd rfl (by walk_at "o") (zE zb))
    (zc (zY PassesOwn.leaving rfl (JC rfl T.n_range (za (zw zL rfl T.n_len zM (za (zm (zq (i:=0) (j:=0) (zo hr) rfl (by walk_at "o") rfl)) zb)) zb)) (zr (i:=2) S.nd rfl (by walk_at "o")) (zc (zl (i:=3) S.nd rfl (by walk_at "o") (at3 (zm (zq (i:=0) (j:=2) (zo hr) rfl (by walk_at "o") rfl)) (n3 2) (fun _ _=>rfl)))
      (zc (zl (i:=4) S.nd rfl (by walk_at "o") (new3 (zE (za (at3 (zm (zq (i:=0) (j:=0) (zo hr) rfl (by walk_at "o") rfl)) (n3 2) (fun _ _=>rfl)) (za (zZ ji rfl T.n_str jg (za (at3 (zm (zq (i:=0) (j:=1) (zo hr) rfl (by walk_at "o") rfl)) (n3 2) (fun _ _=>rfl)) zb)) (za (df3 hE zpn (hr.mono (by decide)) rfl zg (za (at3 (n3 3) i3 (fun _ _=>rfl)) zb)) (za (df3 hE zpn (hr.mono (by decide)) rfl zg (za (at3 (n3 3) i3 (fun _ _=>rfl)) zb)) zb)))))))
      (ze (JQ (i:=1) rfl (by walk_at "o") (j6 s3 (n3 4)))))))
    (zc (zY PassesOwn.leaving rfl (z9 (zm (zq (i:=0) (j:=3) (zo hr) rfl (by walk_at "o") rfl))) (znE (n:=2) rfl (je (zr (i:=5) S.nd rfl (by walk_at "o")) (je (zr (i:=6) S.nd rfl (by walk_at "o")) Jl))) (ze (JQ (i:=1) rfl (by walk_at "o") (op3 zu (op3 zu s3 (zZ ji rfl T.n_str jg (za (n3 5) zb))) (j6 s3 (new3 (jA ["_law_weight_here"] [] [] rfl (jI (osc:=zf zdr) (by decide +kernel)) rfl (z9 (n3 6)) (fun H0 s H fp cl=>⟨(zr (i:=0) (show((["_law_weight_here"]:List PySem.Str)++([]:List PySem.Str)).Nodup by decide) rfl (by walk_at "o")),Jm,(op3 zu s3 (zZ ji rfl T.n_str jg (za (n3 0) zb)))⟩))))))))
    (zc (zY PassesOwn.leaving rfl (z9 (zm (zq (i:=0) (j:=4) (zo hr) rfl (by walk_at "o") rfl))) (J2 (n:=3) rfl (je (zr (i:=7) S.nd rfl (by walk_at "o")) (je (zr (i:=8) S.nd rfl (by walk_at "o")) (je (zr (i:=9) S.nd rfl (by walk_at "o")) Jl)))) (ze (JQ (i:=1) rfl (by walk_at "o") (op3 zu (op3 zu (op3 zu (op3 zu (n3 7) s3) (zZ ji rfl T.n_str jg (za (n3 8) zb))) s3) (n3 9)))))
    (zc (s_if (zj zfK (zm (zq (i:=0) (j:=5) (zo hr) rfl (by walk_at "o") rfl)) non3 (nomark _)) (ze (JQ (i:=1) rfl (by walk_at "o") (op3 zu s3 (j6 s3 (zm (zq (i:=0) (j:=5) (zo hr) rfl (by walk_at "o") rfl)))))) zk)
    (zc (s_if (zj (zD hr.units) (zw zL rfl T.n_len zM (za (n3 1) zb)) i3 (nomark _)) (ze (zn s3)) zk)
    (ze (zcW [1] (zn (j6 s3 (n3 1))))))))))),fun cs Q h=>?_⟩
  obtain⟨S,rfl,g,q⟩:=h;have hn:=g.n;have hs:=g.s;have hr:=g.r
  walk_at "rd"
  rw [List.length_map,Int.toNat_natCast];have eN:nums 0 S.names.length=(List.range S.names.length).map fun(k:Nat)=>PyData.int k:=by unfold nums;simp
  rw [eN];have e1:Str.ofString " " = Str.ofString " ":=rfl;have n6:(Str.ofString "turns ").length=6:=by decide
  have n4:(Str.ofString "row ").length=4:=by decide
  have lt:∀ {n},n≤200→n<sizeLine:=fun h=>Nat.lt_of_lt_of_le (show _<1000000 by omega) (by decide)
  obtain⟨o,ho⟩:∃ o,o=Cl.fo none (jt S):=⟨_,rfl⟩;refine⟨by omega,by omega,?_⟩
  refine z7 (fun i:Nat=>PyData.int i) (List.range S.names.length) (fun done ρ=>∃ b t2 t3 t4,ρ = [some (Cl.fo none (jt S)),some (.ow b ((done.map (jj S)).map PyData.str)),t2,t3,t4,none,none,none,none,none]) ?_ ?_ ⟨_,none,none,none,rfl⟩
  · rintro done i rest ρ hd ⟨b,t2,t3,t4,rfl⟩ W hW
    have hi:i<S.names.length:=by
      have:i∈List.range S.names.length:=by rw [hd];simp
      exact List.mem_range.mp this
    have hdl:done.length≤8:=by
      have:=congrArg List.length hd;rw [List.length_range,List.length_append] at this
      omega
    walk_at "rd"
    have w1:=zbQ g hi;have l1:=zgw g hi;have n0:=JF g hi;obtain⟨_,hw⟩:=g.wb _ (List.mem_of_getElem? w1);obtain⟨_,_,_,_,b1,b2,b3,b4⟩:=g.lb _ (List.mem_of_getElem? l1);have n1:=ZS hw;have n2:=Zz b1 b2;have n3:=Zz b3 b4;have hW2:∀ b (X:List D) t2 t3 t4,X=((done++[i]).map (jj S)).map PyData.str→W [some (Cl.fo none (jt S)),some (.ow b X),t2,t3,t4,none,none,none,none,none]:=fun b X t2 t3 t4 e=>hW _ ⟨b,t2,t3,t4,by rw [e]⟩
    refine⟨_,jb l1,_,jb (jQ hi),_,jb w1,Nat.lt_of_lt_of_le (hw.log2 (by decide)) (by decide),_,atI0,_,_,rfl,b1.mono (by decide),b2.mono (by decide),_,atI1,_,_,rfl,b3.mono (by decide),b4.mono (by decide),_,rfl,by decide,?_,?_,hW2 b _ _ _ _ ?_⟩
    · rw [jc]
      simp only [List.map_cons,List.map_nil,List.sum_cons,List.sum_nil,List.length_cons,List.length_nil]
      omega
    · rw [List.length_map,List.length_map];exact lt (by omega)
    · rw [jc]
      simp only [List.map_append,List.append_assoc]
      rfl
  · rintro ρ ⟨b,t2,t3,t4,rfl⟩
    walk_at "rd"
    refine z7 dSM S.spells (fun done ρ=>∃ b t2 t3 t4 t5 t6,ρ = [some (Cl.fo none (jt S)),some (.ow b (((List.range S.names.length).map (jj S)++done.map jo).map PyData.str)),t2,t3,t4,t5,t6,none,none,none]) ?_ ?_ ⟨b,t2,t3,t4,none,none,by rw [List.map_nil,List.append_nil];rfl⟩
    · rintro done s rest ρ hd ⟨b,t2,t3,t4,t5,t6,rfl⟩ W hW
      have hm:s∈S.spells:=by rw [hd];simp
      have hdl:done.length≤8:=by rw [hd,List.length_append] at hs;omega
      walk_at "rd dSM"
      obtain⟨h1,h2,h3⟩:=g.sb s hm;have hz:=zdl g hm;have m1:=JO h2;rw [jc];refine⟨Nat.lt_of_lt_of_le (h2.log2 (by decide)) (by decide),sz (by omega),by rw [List.length_map];exact sz (by omega),?_⟩
      refine Jp PyData.int (fun w=>PyData.str (Str.ofString " " ++ st (tl w))) (fun ρ=>∃ t,ρ = [t]) _ (fun x hx ρ fa acc K hR hK=>?_) _ _ _ _ ⟨_,rfl⟩ ?_
      · obtain⟨t,rfl⟩:=hR
        walk_at "rd"
        have hB:=h3 x hx;have:=ZS hB;rw [jc];exact⟨Nat.lt_of_lt_of_le (hB.log2 (by decide)) (by decide),sz (by rw [Jd];omega),hK _ ⟨_,rfl⟩⟩
      · have hW2:∀ b (X:List D) t5 t6,X=((List.range S.names.length).map (jj S)++(done++[s]).map jo).map PyData.str→W [some (Cl.fo none (jt S)),some (.ow b X),t2,t3,t4,t5,t6,none,none,none]:=fun b X t5 t6 e=>hW _ ⟨b,t2,t3,t4,t5,t6,by rw [e]⟩
        have et:=zji s.1 s.2;have ts:((s.2.map fun w=>Str.ofString " " ++ st (tl w)).map fun x=>x.length).sum≤8*48:=by
          have:=JI (l:=(s.2.map fun w=>Str.ofString " " ++ st (tl w)).map fun x=>x.length) (k:=48) (by
            intro y hy;rw [List.map_map] at hy;obtain⟨n,hn,rfl⟩:=List.mem_map.mp hy;have:=ZS (h3 n hn);show(Str.ofString " " ++ st (tl n)).length≤48;rw [jy,Jd];omega)
          simp only [List.length_map] at this
          omega
        refine⟨s.2.map fun w=>Str.ofString " " ++ st (tl w),?_,by decide,?_,?_,?_,hW2 b _ _ _ ?_⟩
        · rw [List.nil_append]
          rw [show(s.2.map fun w=>PyData.str (Str.ofString " " ++ st (tl w)))=(s.2.map fun w=>Str.ofString " " ++ st (tl w)).map PyData.str by rw [List.map_map];rfl]
          exact jP _
        · rw [List.length_map];omega
        · have:=ZH "" (s.2.map fun w=>Str.ofString " " ++ st (tl w))
          rw [List.length_map,show(Str.ofString "").length=0 by decide,Nat.mul_zero] at this
          rw [jy];exact sz (by omega)
        · rw [List.length_map,List.length_append,List.length_map,List.length_map,List.length_range]
          exact lt (by omega)
        · rw [et]
          simp only [List.map_append,List.append_assoc]
          rfl
    · rintro ρ ⟨b,t2,t3,t4,t5,t6,rfl⟩
      walk_at "rd"
      refine z7 (dRM S) S.rules (fun done ρ=>∃ b t2 t3 t4 t5 t6 t7 t8 t9,ρ = [some (Cl.fo none (jt S)),some (.ow b (((List.range S.names.length).map (jj S)++S.spells.map jo++done.map (j5 S)).map PyData.str)),t2,t3,t4,t5,t6,t7,t8,t9]) ?_ ?_ ⟨b,t2,t3,t4,t5,t6,none,none,none,by rw [List.map_nil,List.append_nil];rfl⟩
      · rintro done r rest ρ hd ⟨b,t2,t3,t4,t5,t6,t7,t8,t9,rfl⟩ W hW
        have hm:r∈S.rules:=by rw [hd];simp
        have hdl:done.length≤100:=by rw [hd,List.length_append] at hr;omega
        obtain⟨h1,h2⟩:=g.rb r hm
        walk_at "rd dRM"
        have m1:=JO h1;have m2:=JF g h2;have m3:=zdo r.1;rw [jc];have hW2:∀ b (X:List D) t7 t8 t9,X=((List.range S.names.length).map (jj S)++S.spells.map jo++(done++[r]).map (j5 S)).map PyData.str→W [some (Cl.fo none (jt S)),some (.ow b X),t2,t3,t4,t5,t6,t7,t8,t9]:=fun b X t7 t8 t9 e=>hW _ ⟨b,t2,t3,t4,t5,t6,t7,t8,t9,by rw [e]⟩
        refine⟨sz (by rw [Jd];omega),Nat.lt_of_lt_of_le (h1.log2 (by decide)) (by decide),?_,?_,?_,?_,hW2 b _ _ _ _ ?_⟩
        · rw [jy,Jd];exact sz (by omega)
        · rw [jy,jy,Jd];exact sz (by omega)
        · rw [jy,jy,jy,Jd];exact sz (by omega)
        · simp only [List.length_map,List.length_append,List.length_range]
          exact lt (by omega)
        · rw [zoA]
          simp only [List.map_append,List.append_assoc]
          rfl
      · rintro ρ ⟨b,t2,t3,t4,t5,t6,t7,t8,t9,rfl⟩
        have hlt:((List.range S.names.length).map (jj S)++S.spells.map jo++S.rules.map (j5 S)).length<sizeLine:=by
          simp only [List.length_map,List.length_append,List.length_range];exact lt (by omega)
        cases hrow:S.row with
        | none=>
          walk_at "rd hrow rowD"
          exact zbH g (by unfold jv rowT;rw [hrow,List.append_nil]) q
        | some l=>
          obtain⟨o1,o2⟩:=g.ob l hrow;have nl:=(zaq g o1 o2).2
          walk_at "rd hrow rowD"
          refine⟨_,jP _,by decide,?_,sz (by rw [n4];unfold Zv at nl;omega),by rw [List.length_map];exact hlt,?_⟩
          · have:=(zaq g o1 o2).1
            rw [List.length_map];omega
          · have fin:=zbH g (X:=(List.range S.names.length).map (jj S)++S.spells.map jo++S.rules.map (j5 S)++["row " ++ Zv S l]) (by unfold jv rowT;rw [hrow]) q
            rw [List.map_append] at fin;exact fin
theorem zlk (T:Txt c K mg) : zeb P w K mg base c:=by
  obtain⟨f,fd,F,hm⟩:=T.d_law_name;have S:FnScope ["_law_k", "_law_cell", "_law_some", "_law_known", "_law_state", "_law_word", "_law_j", "_law_at"] ["_law_k", "_law_cell"] (zf zg3):=⟨rfl,rfl,rfl,by decide +kernel,rfl,by decide +kernel,by decide +kernel⟩
  refine⟨fun ds Q Q' E E' hQ hE h=>?_,⟨f,fd,fn3 F S (fun ds Q E h=>?_) (fun cdv A outer s H E E3 hE hr=>?_),F.binds fun _ _ _ _ _ _ us hl=>by obtain⟨_,_,rfl⟩:=zF hl;rfl,F.kp,hm⟩⟩
  · walk_at "m"
  · walk_at "l"
  refine⟨_,(zc (zl (i:=2) S.nd rfl (by walk_at "o") s3)
    (zc (zl (i:=3) S.nd rfl (by walk_at "o") (new3 (zE (za s3 (za s3 (za s3 (za s3 (za s3 (za s3 (za s3 (za s3 (za s3 zb))))))))))))
    (zc (zl (i:=3) S.nd rfl (by walk_at "o") (new3 (cat3 (n3 3) (new3 (zE (za s3 (za s3 (za s3 (za s3 (za s3 (za s3 (za s3 zb))))))))))))
    (zc (zl (i:=4) S.nd rfl (by walk_at "o") (op3 zN (op3 zu (op3 jz (n3 1) i3) i3) i3))
    (zc (zl (i:=5) S.nd rfl (by walk_at "o") s3)
    (zc (zY PassesOwn.leaving rfl (JC rfl T.n_range (za i3 zb)) (zr (i:=6) S.nd rfl (by walk_at "o")) (zc (zl (i:=4) S.nd rfl (by walk_at "o") (op3 zN (op3 zu (op3 jz (n3 4) i3) (op3 jz (op3 jz (op3 jz i3 (zZ zkE rfl T.n_int zbz (za (cmp3 (zD hr.units) (op3 zN (n3 1) i3) i3 (nomark _)) zb))) (n3 0)) (n3 0))) i3))
      (ze (zl (i:=5) S.nd rfl (by walk_at "o") (op3 zu (n3 5) (at3 (n3 2) (op3 zN (op3 jn (n3 4) i3) i3) (fun _ _=>rfl)))))))
    (zc (s_if (zj (zD hr.units) (op3 zN (n3 1) i3) i3 (nomark _)) (ze (zn (at3 (n3 3) (op3 zN (op3 zu (n3 0) (op3 jn (n3 1) i3)) i3) (fun _ _=>rfl)))) zk)
    (zc (s_if (zj (zD hr.units) (op3 zN (n3 1) i3) i3 (nomark _)) (zc (zl (i:=7) S.nd rfl (by walk_at "o") (op3 zN (op3 jn (n3 1) i3) i3))
      (ze (zn (op3 zu (op3 zu (zbk (n3 5) Zj (Zk (n3 7))) (at3 (n3 2) (op3 zN (op3 zu (n3 0) (op3 jn (n3 1) i3)) i3) (fun _ _=>rfl))) (zbk (n3 5) (Zk (op3 zu (n3 7) i3)) Zj))))) zk)
    (zc (s_if (zj (zD hr.units) (op3 zN (n3 1) i3) i3 (nomark _)) (ze (zn (zbk (n3 5) Zj (Zk (op3 zu i3 (op3 zN (op3 zu (n3 0) (op3 jn (n3 1) i3)) i3)))))) zk)
    (ze (zn (zbk (n3 5) Zj (Zk (op3 zu i3 (op3 zN (op3 zu (n3 4) (n3 0)) i3))))))))))))))),fun ds Q h=>?_⟩
  obtain⟨k,cell,rfl,k0,k1,q⟩:=h
  walk_at "rd"
  refine⟨by decide,IntMulOk.of_right (by decide +kernel),by decide,by decide,by decide,?_⟩
  have eN:nums 0 (Int.toNat 8)=(List.range 8).map fun(i:Nat)=>PyData.int (0+(i:Nat)):=rfl
  rw [eN];refine z7 (fun i:Nat=>PyData.int (0+(i:Nat))) (List.range 8) (fun done ρ=>∃ (s:Int) (l:List Nat) (t6:Option L3.Cl),ρ = [some (.sh true (.int k)),some (.sh true (.int cell)),some (.sh true (.str LET)),some (.sh true (.list (zcF.map .str))),some (.sh true (.int s)),some (.sh true (.str (st l))),t6,none]∧zX s 2147483647∧l.length=done.length∧∀ c∈l,ZI c) ?_ ?_ ⟨(cell*48271+7919)%2147483647,[],none,rfl,⟨Int.emod_nonneg _ (by decide),Int.emod_lt_of_pos _ (by decide)⟩,rfl,fun c h=>by cases h⟩
  · rintro done i rest ρ hd ⟨s,l,t6,rfl,hs,hl,hc⟩ W hW
    walk_at "rd"
    have hi:done.length<8:=by
      have:=congrArg List.length hd;rw [List.length_range,List.length_append,List.length_cons] at this
      omega
    have l1:∀ n:Int,IntMulOk n (if cell%4=3 then 1 else 0):=fun n=>IntMulOk.of_right (by split<;>decide +kernel)
    have l2:∀ n:Int,IntMulOk n k:=fun n=>IntMulOk.of_right (intBits_le_64 (by omega) (by omega))
    generalize hS:(s*48271+(11*if cell%4=3 then 1 else 0)*k*k)%2147483647=S'
    have s0:zX S' 2147483647:=⟨by rw [←hS];exact Int.emod_nonneg _ (by decide),by rw [←hS];exact Int.emod_lt_of_pos _ (by decide)⟩
    obtain⟨c,h1,h2⟩:=zgj (n:=S'/64%26) (Int.emod_nonneg _ (by decide)) (Int.emod_lt_of_pos _ (by decide))
    refine⟨IntMulOk.of_right (by decide +kernel),by decide,l1 _,l2 _,l2 _,by decide,⟨by decide,Bits.lit (x:=64) 64 |>.mono (by decide)⟩,by decide,_,h2,?_⟩
    refine⟨by rw [zp,zp,hl];exact sz (by simp only [List.length_cons,List.length_nil];omega),hW _ ⟨S',l++[c],_,by rw [Js],s0,by rw [List.length_append,List.length_append,hl];rfl,fun x hx=>?_⟩⟩
    rcases List.mem_append.mp hx with hx|hx
    · exact hc x hx
    · rw [List.mem_singleton.mp hx];exact h1
  · rintro ρ ⟨s,l,t6,rfl,hs,hl,hc⟩
    walk_at "rd"
    rw [List.length_range] at hl;have hz:(st l).length≤sizeLine:=by rw [zp,hl];exact sz (by decide)
    have b4:∀ i,jM i 4:=fun i=>⟨by decide,Bits.lit (x:=4) 64 |>.mono (by decide)⟩
    have b32:∀ i,jM i 32:=fun i=>⟨by decide,Bits.lit (x:=32) 64 |>.mono (by decide)⟩
    refine⟨by decide,?_⟩
    by_cases c0:cell%4=0
    · rw [if_pos c0]
      have h1:=Int.emod_nonneg (k+cell/4) (b:=16) (by decide)
      have h2:=Int.emod_lt_of_pos (k+cell/4) (b:=16) (by decide)
      generalize (k+cell/4)%16=n at h1 h2;obtain⟨m,rfl⟩:=Int.eq_ofNat_of_zero_le h1;have hm:m<zcF.length:=by show m<16;omega
      exact⟨b4 _,by decide,_,jb (List.getElem?_eq_getElem hm),q _ (zlz _ (List.getElem_mem hm))⟩
    · rw [if_neg c0]
      refine⟨by decide,?_⟩
      by_cases c1:cell%4=1
      · rw [if_pos c1]
        obtain⟨c,h1,h2⟩:=zgj (n:=(k+cell/32)%26) (Int.emod_nonneg _ (by decide)) (Int.emod_lt_of_pos _ (by decide))
        have h3:=Int.emod_nonneg (cell/4) (b:=8) (by decide)
        have h4:=Int.emod_lt_of_pos (cell/4) (b:=8) (by decide)
        generalize cell/4%8=n at h3 h4;rw [zeF h3 (by omega),ziF (n:=n+1) (by omega) (by omega)]
        refine⟨b4 _,by decide,hz,b32 _,by decide,_,h2,?_⟩
        show(st (List.take n.toNat l)).length+(st [c]).length≤sizeLine∧(st l).length≤sizeLine∧(st (List.take n.toNat l)++st [c]).length+(st (List.drop (n+1).toNat l)).length≤sizeLine∧Q true (PyData.str (st (List.take n.toNat l)++st [c]++st (List.drop (n+1).toNat l)))
        rw [Js,Js,zp,zp,zp,zp,zp];refine⟨sz ?_,sz (by omega),sz ?_,q _ (zgI ?_ ?_ fun x hx=>?_)⟩
        · rw [List.length_take];simp only [List.length_cons,List.length_nil];omega
        · rw [List.length_append,List.length_take,List.length_drop];simp only [List.length_cons,List.length_nil];omega
        · rw [List.length_append,List.length_append,List.length_take,List.length_drop];simp only [List.length_cons,List.length_nil];omega
        · rw [List.length_append,List.length_append,List.length_take,List.length_drop];simp only [List.length_cons,List.length_nil];omega
        · rcases List.mem_append.mp hx with hx|hx
          · rcases List.mem_append.mp hx with hx|hx
            · exact hc x (List.mem_of_mem_take hx)
            · rw [List.mem_singleton.mp hx];exact h1
          · exact hc x (List.mem_of_mem_drop hx)
      · rw [if_neg c1]
        have fin:∀ n:Int,0≤n→n<8→Q true (PyData.str (Txt.slice (st l) none (some (1+n)))):=fun n n0 n1=>by
          rw [zeF (n:=1+n) (by omega) (by omega)]
          exact q _ (zgI (by rw [List.length_take];omega) (by rw [List.length_take];omega) fun x hx=>hc x (List.mem_of_mem_take hx))
        refine⟨by decide,?_⟩
        split
        · exact⟨b4 _,by decide,hz,fin _ (Int.emod_nonneg _ (by decide)) (Int.emod_lt_of_pos _ (by decide))⟩
        · exact⟨by decide,hz,fin _ (Int.emod_nonneg _ (by decide)) (Int.emod_lt_of_pos _ (by decide))⟩
theorem zkB (T:Txt c K mg) (zpi:zeb P w K mg base c):zcy P w K mg base c:=by
  obtain⟨f,fd,F,hm⟩:=T.d_law_fresh;have S:FnScope ["_law_names", "_law_cell", "_law_k", "_law_name_here"] ["_law_names", "_law_cell"] (zf zcp):=⟨rfl,rfl,rfl,by decide +kernel,rfl,by decide +kernel,by decide +kernel⟩
  refine⟨fun ds Q Q' E E' hQ hE h=>?_,⟨f,fd,fn3 F S (fun ds Q E h=>?_) (fun cdv A outer s H E E3 hE hr=>?_),F.binds fun _ _ _ _ _ _ us hl=>by obtain⟨_,_,rfl⟩:=zF hl;rfl,F.kp,hm⟩⟩
  · walk_at "m"
  · walk_at "l"
  refine⟨_,(zc (zY PassesOwn.leaving rfl (JC rfl T.n_range (za i3 zb)) (zr (i:=2) S.nd rfl (by walk_at "o")) (zc (zl (i:=3) S.nd rfl (by walk_at "o") (df3 hE zpi (hr.mono (by decide)) rfl zg (za (n3 2) (za (n3 1) zb))))
      (ze (s_if (zj zcC (n3 3) (n3 0) (by with_unfolding_all rfl)) (ze (zn (n3 3))) zk))))
    (ze (zn (at3 (new3 (jA ["_law_name_here"] ["_law_names"] [0] rfl (jI (osc:=zf zcp) (by decide +kernel)) rfl (z9 (new3 (zE (za s3 (za s3 (za s3 (za s3 (za s3 (za s3 (za s3 (za s3 (za s3 zb)))))))))))) (fun H0 s H fp cl=>⟨(zr (i:=0) (show((["_law_name_here"]:List PySem.Str)++(["_law_names"]:List PySem.Str)).Nodup by decide) rfl (by walk_at "o")),(zbV (zj zcC (n3 0) (n3 1) (by with_unfolding_all rfl))),(n3 0)⟩))) i3 (fun _ _=>rfl))))),fun ds Q h=>?_⟩
  obtain⟨ns,cell,rfl,hl,q⟩:=h
  walk_at "rd"
  refine⟨by decide,by decide,?_⟩
  have eN:nums 0 (Int.toNat 40)=(List.range 40).map fun(i:Nat)=>PyData.int (0+(i:Nat)):=rfl
  rw [eN];refine z7 (fun i:Nat=>PyData.int (0+(i:Nat))) (List.range 40) (fun done ρ=>∃ (t2 t3:Option L3.Cl),ρ = [some (.sh false (.list (ns.map .str))),some (.sh true (.int cell)),t2,t3]) ?_ ?_ ⟨_,_,rfl⟩
  · rintro done i rest ρ hd ⟨t2,t3,rfl⟩ W hW
    have hi:i<40:=by
      have:i∈List.range 40:=by rw [hd];simp
      exact List.mem_range.mp this
    walk_at "rd"
    refine⟨by omega,by omega,fun x hx=>⟨ns,jP ns,?_⟩⟩
    rw [zcj]
    by_cases h:x∈ns
    · rw [if_neg (by simp [h])];exact hW _ ⟨_,_,rfl⟩
    · rw [if_pos (by simp [h])];exact q x hx h
  · rintro ρ ⟨t2,t3,rfl⟩
    walk_at "rd"
    show jm _ _ _ true (Jz.map PyData.str) true [] _ _
    refine zce PyData.str PyData.str (fun x=>decide (x∉ns)) (fun ρ=>∃ t,ρ = [t,some (Cl.sh false (PyData.list (ns.map PyData.str)))]) _ (fun x _ ρ fa acc K hR hK=>?_) _ _ _ _ ⟨_,rfl⟩ fun fb=>?_
    · obtain⟨t,rfl⟩:=hR
      walk_at "rd"
      refine⟨ns,jP ns,?_⟩
      rw [zcj]
      by_cases h:x∈ns
      · have:=hK fa [some (Cl.sh true (PyData.str x)),some (Cl.sh false (PyData.list (ns.map PyData.str)))] ⟨_,rfl⟩
        rw [if_neg (by simp [h])] at this ⊢;exact this
      · have:=hK fa [some (Cl.sh true (PyData.str x)),some (Cl.sh false (PyData.list (ns.map PyData.str)))] ⟨_,rfl⟩
        rw [if_pos (by simp [h])] at this ⊢;simpa using this
    · obtain⟨x,r,e,h1,h2⟩:=spare hl
      rw [e,List.nil_append,List.map_cons];refine⟨_,atI0,?_⟩;have:=q x h1 h2
      simpa using this
theorem zm1 (T:Txt c K mg) (zpp:zck P w K mg base c) (zpf:zcy P w K mg base c):zcO P w K mg base c:=by
  obtain⟨f,fd,F,hm⟩:=T.d_law_new_clan;have S:FnScope ["_law_model", "_law_bag", "_law_weight_here", "_law_name_here", "_law_spell"] ["_law_model", "_law_bag"] (zf zex):=⟨rfl,rfl,rfl,by decide +kernel,rfl,by decide +kernel,by decide +kernel⟩
  refine⟨fun o cs Q Q' hQ h=>?_,⟨f,fd,fnO F S (fun o cs Q h=>?_) (fun cdv A outer s H H0 E E3 hE hr=>?_),F.binds fun _ _ _ _ _ _ us hl=>by obtain⟨_,_,rfl⟩:=zF hl;rfl,F.kp,hm⟩⟩
  · walk_at "m"
  · obtain⟨_,_,_,rfl,_⟩:=h;rfl
  refine⟨_,(zc (zl (i:=2) S.nd rfl (by walk_at "o") (dfR zpp (hr.mono (by decide)) rfl zg (za (n3 1) zb)))
    (zc (zl (i:=3) S.nd rfl (by walk_at "o") (df3 hE zpf (hr.mono (by decide)) rfl zg (za (zm (zq (i:=0) (j:=0) (zo hr) rfl (by walk_at "o") rfl)) (za (zd9 (i:=1) rfl (by walk_at "o")) zb))))
    (zc (Ji (zq (i:=0) (j:=0) (zo hr) rfl (by walk_at "o") rfl) (n3 3))
    (zc (Ji (zq (i:=0) (j:=1) (zo hr) rfl (by walk_at "o") rfl) (n3 2))
    (zc (Ji (zq (i:=0) (j:=2) (zo hr) rfl (by walk_at "o") rfl) (new3 (zE (za (jq (za i3 (za i3 zb))) (za (jq (za i3 (za i3 zb))) zb)))))
    (zc (zkJ (k:=4) (zq (i:=0) (j:=3) (zo hr) rfl (by walk_at "o") rfl) PassesOwn.leaving rfl S.nd rfl (by walk_at "o") (by walk_at "o"))
    (ze (zU (new3 (zE (za s3 (za (n3 3) (za (zZ ji rfl T.n_str jg (za (n3 2) zb)) zb))))))))))))),fun o cs Q h=>?_⟩
  obtain⟨k,S,⟨a,l1,l2,l3,l4,l5,qs,fl,rfl,hfl⟩,rfl,I,hk,hl,q⟩:=h;have g:=I.good hk
  walk_at "rd"
  intro n hn _;have lt:∀ {n},n≤200→n<sizeLine:=fun h=>Nat.lt_of_lt_of_le (show _<1000000 by omega) (by decide)
  refine⟨S.names,rfl,I.n,fun x hx hnx=>⟨by rw [List.length_map];exact lt (by omega),by rw [List.length_map,I.w];exact lt (by omega),by rw [List.length_map,I.l];exact lt (by omega),by decide,by decide,fun m hm=>?_,?_,?_⟩⟩
  · obtain⟨s,hs,rfl⟩:=List.mem_map.mp hm
    show(s.2.map PyData.int).length<_
    rw [List.length_map,(I.sb s hs).1];exact lt (by omega)
  · have b:=Inv.bits (k:=0) (by decide) (w:=n) (Zp hn)
    exact Nat.lt_of_lt_of_le (b.log2 (by decide)) (by decide)
  · have e:=q (modO (S.clan x n) a l1 l2 l3 l4 l5 qs fl) _ (S.clan x n) rfl ⟨a,l1,l2,l3,l4,l5,qs,fl,rfl,zi2 I hfl⟩ (zl3 I hx hnx hl hn) true
    rw [jc];unfold modO at e;rw [show(S.clan x n).rules=S.rules from rfl,zno (S:=S) (fun i hi=>zfr hi) (fun r hr=>(I.rb r hr).2.2)] at e
    unfold St.clan at e;simp only [List.map_append,List.map_map] at e ⊢;rw [show(mS∘fun s:Spell=>(s.1,s.2++[0]))=((fun m=>(m.1,m.2++[PyData.int 0]))∘mS) from funext fun s=>by simp [mS]] at e
    exact e
theorem zmf (T:Txt c K mg) (zpe:JB P w K mg base c) (zpo:zca P w K mg base c):zcZ P w K mg base c:=by
  obtain⟨f,fd,F,hm⟩:=T.d_law_of_turns;have S:FnScope ["_law_model", "_law_kind", "_law_bag", "_law_turn", "_law_k", "_law_rule"] ["_law_model", "_law_kind", "_law_bag"] (zf zdK):=⟨rfl,rfl,rfl,by decide +kernel,rfl,by decide +kernel,by decide +kernel⟩
  refine⟨fun o cs Q Q' hQ h=>?_,⟨f,fd,fnO F S (fun o cs Q h=>?_) (fun cdv A outer s H H0 E E3 hE hr=>?_),F.binds fun _ _ _ _ _ _ us hl=>by obtain⟨_,_,_,rfl⟩:=J6 hl;rfl,F.kp,hm⟩⟩
  · walk_at "m"
  · obtain⟨_,_,_,_,rfl,_⟩:=h;rfl
  refine⟨_,(zc (zl (i:=3) S.nd rfl (by walk_at "o") (op3 zu i3 (dfR zpe (hr.mono (by decide)) rfl zg (za (n3 2) (za (dfR zpo (hr.mono (by decide)) rfl zg (za (n3 0) zb)) zb)))))
    (zc (s_if (zj (zD hr.units) (n3 1) i3 (nomark _)) (zc (zdu (i:=0) (j:=4) (zo hr) rfl (by walk_at "o") rfl (zfk 0 4 (jA ["_law_rule"] ["_law_turn"] [3] rfl (jI (osc:=zf zdK) (by decide +kernel)) rfl (z9 (zm (zq (i:=0) (j:=4) (zo hr) rfl (by walk_at "o") rfl))) (fun H0 s H fp cl=>⟨(zr (i:=0) (show((["_law_rule"]:List PySem.Str)++(["_law_turn"]:List PySem.Str)).Nodup by decide) rfl (by walk_at "o")),(zbV (zj (jR hr.units) (at3 (n3 0) i3 (fun _ _=>rfl)) (n3 1) (nomark _))),(n3 0)⟩))))
      (ze (zU (new3 (zE (za s3 (za (zZ ji rfl T.n_str jg (za (n3 3) zb)) zb))))))) zk)
    (zc (s_if (zj (zD hr.units) (n3 1) i3 (nomark _)) (zc (zdu (i:=0) (j:=5) (zo hr) rfl (by walk_at "o") rfl (zE zb))
      (zc (zY PassesOwn.leaving rfl (JC rfl T.n_range (za (dfR zpo (hr.mono (by decide)) rfl zg (za (n3 0) zb)) zb)) (zr (i:=4) S.nd rfl (by walk_at "o")) (ze (Ji (zq (i:=0) (j:=5) (zo hr) rfl (by walk_at "o") rfl) (at3 (zm (zq (i:=0) (j:=0) (zo hr) rfl (by walk_at "o") rfl)) (dfR zpe (hr.mono (by decide)) rfl zg (za (n3 2) (za (zw zL rfl T.n_len zM (za (zm (zq (i:=0) (j:=0) (zo hr) rfl (by walk_at "o") rfl)) zb)) zb))) (fun _ _=>rfl)))))
      (ze (zU (new3 (cat3 (new3 (zE (za s3 zb))) (zm (zq (i:=0) (j:=5) (zo hr) rfl (by walk_at "o") rfl)))))))) zk)
    (zc (zl (i:=5) S.nd rfl (by walk_at "o") (jq (za (at3 (new3 (zE (za s3 (za s3 zb)))) (op3 zbS (n3 1) i3) (fun _ _=>rfl)) (za (n3 3) (za (at3 (zm (zq (i:=0) (j:=0) (zo hr) rfl (by walk_at "o") rfl)) (dfR zpe (hr.mono (by decide)) rfl zg (za (n3 2) (za (zw zL rfl T.n_len zM (za (zm (zq (i:=0) (j:=0) (zo hr) rfl (by walk_at "o") rfl)) zb)) zb))) (fun _ _=>rfl)) zb)))))
    (zc (Ji (zq (i:=0) (j:=4) (zo hr) rfl (by walk_at "o") rfl) (n3 5))
    (ze (zU (new3 (zE (za (at3 (n3 5) i3 (fun _ _=>rfl)) (za (zZ ji rfl T.n_str jg (za (n3 3) zb)) (za (at3 (n3 5) i3 (fun _ _=>rfl)) zb)))))))))))),fun o cs Q h=>?_⟩
  obtain⟨k,S,n,⟨a,l1,l2,l3,l4,l5,qs,fl,rfl,hfl⟩,rfl,n4,n7,I,hk,hl,ht,q⟩:=h;have g:=I.good hk;have n8:=I.n;have t60:=I.t
  walk_at "rd"
  refine⟨S,rfl,rfl,rfl,ZR _,rfl,Z3 hfl,g.toFew,ht,(Bits.lit (x:=tot S.spells) 64 (by omega)).mono (by decide),fun t0 h0=>?_⟩
  obtain⟨t1,t2⟩:=h0;have ht1:1≤1+t0:=by omega
  have ht2:1+t0≤tot S.spells:=by omega
  have rl:S.rules.length≤50:=by have:=I.r;omega
  have lg:(1+t0).natAbs.log2<1920:=Nat.lt_of_lt_of_le ((show Bits 20 (1+t0) by unfold Bits;omega).log2 (by decide)) (by decide)
  have lt:∀ {n},n≤200→n<sizeLine:=fun h=>Nat.lt_of_lt_of_le (show _<1000000 by omega) (by decide)
  have bn:Bits 9000 (S.names.length:Int):=(Bits.lit (x:=(S.names.length:Int)) 64 (by omega)).mono (by decide)
  rw [jc]
  by_cases h6:n=6
  · rw [if_pos h6]
    refine⟨by rw [List.length_map];exact sz (by omega),?_⟩
    refine zce (dRM S) (dRM S) (fun r=>decide (r.2.1≠1+t0)) (fun ρ=>∃ t,ρ = [t,some (.sh true (.int (1+t0)))]) _ (fun r _ ρ fa acc K hR hK=>?_) _ _ _ _ ⟨_,rfl⟩ fun fb=>?_
    · obtain⟨t,rfl⟩:=hR
      walk_at "rd dRM atI0 atI1"
      by_cases e:r.2.1=1+t0
      · have:=hK fa [some (Cl.sh false (dRM S r)),some (Cl.sh true (PyData.int (1+t0)))] ⟨_,rfl⟩
        rw [if_neg (by simp [e])] at this
        rw [if_neg (fun z=>z e)];exact this
      · have:=hK (fa&&false) [some (Cl.sh false (dRM S r)),some (Cl.sh true (PyData.int (1+t0)))] ⟨_,rfl⟩
        rw [if_pos (by simp [e])] at this
        rw [if_pos e];exact this
    · refine⟨zcP _ (fun r=>by simp [dRM,nol,nols]) _,fun l=>⟨lg,?_⟩⟩
      exact q (modO (S.free (1+t0)) a l1 l2 l3 l4 l qs fl) _ (S.free (1+t0)) rfl ⟨a,l1,l2,l3,l4,l,qs,fl,rfl,hfl⟩ (zmX I ht1 ht2) true
  · rw [if_neg h6]
    by_cases h7:n=7
    · rw [if_pos h7]
      intro l;have F:=g.toFew;refine⟨S.setRow [],rfl,rfl,rfl,ZR _,rfl,rfl,⟨F.n,F.w,F.l,F.s,F.r⟩,by show _≤tot S.spells;omega,by show tot S.spells<_;omega,?_⟩
      have eN:nums 0 (tot (S.setRow []).spells).toNat=(List.range (tot S.spells).toNat).map fun(k:Nat)=>PyData.int k:=by unfold nums;simp [St.setRow]
      rw [eN];refine z7 (fun(k:Nat)=>PyData.int k) (List.range (tot S.spells).toNat) (fun done ρ=>∃ (rw':List Nat) (t4:Option L3.Cl),ρ = [some (.ob ⟨none,a,[Fl.ow l1 (S.names.map .str),Fl.ow l2 (S.ws.map .int),Fl.ow l3 (S.lims.map dLm),Fl.tp l4 qs (S.spells.map mS),Fl.ow l5 (S.rules.map (dRM S)),Fl.ow l ((rw'.map (zv S)).map .str)]⟩),some (.sh true (.int n)),some .bg,some (.sh true (.int (1+t0))),t4,none]∧rw'.length=done.length∧∀ c∈rw',c<S.names.length) ?_ ?_ ⟨[],none,rfl,rfl,fun c h=>by cases h⟩
      · rintro done i rest ρ hd ⟨rw',t4,rfl,hrl,hrc⟩ W hW
        have hdl:done.length≤60:=by
          have:=congrArg List.length hd;rw [List.length_range,List.length_append] at this
          omega
        walk_at "rd"
        rw [List.length_map,List.length_map,List.length_map];refine⟨by omega,bn,fun c hc=>?_⟩
        obtain⟨c,rfl⟩:=Int.eq_ofNat_of_zero_le hc.1;have hcl:c<S.names.length:=by have:=hc.2;omega
        refine⟨_,jb (jQ hcl),lt (by omega),hW _ ⟨rw'++[c],some (Cl.sh true (PyData.int (i:Int))),?_,by rw [List.length_append,List.length_append,hrl];rfl,fun x hx=>?_⟩⟩
        · rw [List.map_append,List.map_append];rfl
        · rcases List.mem_append.mp hx with hx|hx
          · exact hrc x hx
          · rw [List.mem_singleton.mp hx];exact hcl
      · rintro ρ ⟨rw',t4,rfl,hrl,hrc⟩
        walk_at "rd"
        rw [List.length_range] at hrl;have e:=q (modO (S.setRow rw') a l1 l2 l3 l4 l5 qs (.ow l ((rw'.map (zv S)).map .str))) _ (S.setRow rw') rfl ⟨a,l1,l2,l3,l4,l5,qs,_,rfl,l,rfl⟩ (zj3 I (by omega) ht hrc)
        exact⟨by rw [List.length_map,List.length_map];exact sz (by omega),e _⟩
    · rw [if_neg h7]
      have h45:n=4∨n=5:=by omega
      obtain⟨b,hb⟩:∃ b:Bool,atI [PyData.str (Str.ofString "fix"),PyData.str (Str.ofString "bar")] (n - 4)=some (.str (fixT b)):=by
        rcases h45 with rfl|rfl
        · exact⟨true,atI0⟩
        · exact⟨false,atI1⟩
      rw [List.length_map];refine⟨_,hb,by omega,bn,fun c hc=>?_⟩
      obtain⟨c,rfl⟩:=Int.eq_ofNat_of_zero_le hc.1;have hcl:c<S.names.length:=by have:=hc.2;omega
      refine⟨_,jb (jQ hcl),by rw [List.length_map];exact lt (by omega),_,atI0,lg,_,at2',?_⟩
      have e:=q (modO (S.rule (b,1+t0,c)) a l1 l2 l3 l4 l5 qs fl) _ (S.rule (b,1+t0,c)) rfl ⟨a,l1,l2,l3,l4,l5,qs,fl,rfl,hfl⟩ (zon I b ht1 ht2 hcl);unfold modO St.rule at e;simp only [List.map_append] at e;exact e _
theorem zk4 (T:Txt c K mg) (zpe:JB P w K mg base c) (zpo:zca P w K mg base c) (zpk:zd5 P w K mg base c) (zpm:zbD P w K mg base c) (zpj:zcO P w K mg base c) (zpl:zcZ P w K mg base c):zcw P w K mg base c:=by
  obtain⟨f,fd,F,hm⟩:=T.d_law_deed;have S:FnScope ["_law_model", "_law_bag", "_law_kind", "_law_room", "_law_length"] ["_law_model", "_law_bag"] (zf zfS):=⟨rfl,rfl,rfl,by decide +kernel,rfl,by decide +kernel,by decide +kernel⟩
  refine⟨fun o cs Q Q' hQ h=>?_,⟨f,fd,fnO F S (fun o cs Q h=>?_) (fun cdv A outer s H H0 E E3 hE hr=>?_),F.binds fun _ _ _ _ _ _ us hl=>by obtain⟨_,_,rfl⟩:=zF hl;rfl,F.kp,hm⟩⟩
  · walk_at "m"
  · obtain⟨_,_,_,rfl,_⟩:=h;rfl
  refine⟨_,(zc (zl (i:=2) S.nd rfl (by walk_at "o") (dfR zpe (hr.mono (by decide)) rfl zg (za (n3 1) (za i3 zb))))
    (zc (zl (i:=3) S.nd rfl (by walk_at "o") (op3 zbS i3 (dfR zpo (hr.mono (by decide)) rfl zg (za (n3 0) zb))))
    (zc (s_if (zj (zD hr.units) (n3 2) i3 (nomark _)) (ze (zU (jq (za (new3 (zE (za s3 zb))) (za (dfR zpm (hr.mono (by decide)) rfl zg (za (n3 0) zb)) zb))))) zk)
    (zc (s_if (pw3 (Jh (zj (zD hr.units) (n3 2) i3 (nomark _)) (JE (zj (zD hr.units) (dfR zpe (hr.mono (by decide)) rfl zg (za (n3 1) (za i3 zb))) i3 (nomark _))))) (zc (znT (i:=0) (j:=3) (zo hr) rfl (by walk_at "o") rfl (zE zb))
      (zc (zdu (i:=0) (j:=4) (zo hr) rfl (by walk_at "o") rfl (zE zb))
      (zc (zhd (i:=0) (j:=5) (zo hr) rfl (by walk_at "o") rfl non3)
      (ze (zU (jq (za (new3 (zE (za s3 zb))) (za s3 zb)))))))) zk)
    (zc (s_if (pw3 (zcJ (zj (zD hr.units) (zw zL rfl T.n_len zM (za (zm (zq (i:=0) (j:=0) (zo hr) rfl (by walk_at "o") rfl)) zb)) i3 (nomark _)) (zdI (pw3 (Jh (zj jG (n3 2) i3 (nomark _)) (JE (zj jG (zw zL rfl T.n_len zM (za (zm (zq (i:=0) (j:=0) (zo hr) rfl (by walk_at "o") rfl)) zb)) i3 (nomark _)))))))) (ze (zek (dfO (i:=0) zpj (hr.mono (by decide)) rfl zg rfl (by walk_at "o") (za (n3 1) zb)))) zk)
    (zc (s_if (pw3 (Jh (zj J1 (n3 2) i3 (nomark _)) (Jh (zj J1 (n3 3) i3 (nomark _)) (Jh (zj jG (zlg (zq (i:=0) (j:=3) (zo hr) rfl (by walk_at "o") rfl) rfl T.n_len) i3 (nomark _)) (JE (zj J1 (zw (zbP rfl) rfl T.n_sum zbW (za (zm (zq (i:=0) (j:=1) (zo hr) rfl (by walk_at "o") rfl)) zb)) i3 (nomark _))))))) (zc (zl (i:=4) S.nd rfl (by walk_at "o") (op3 zu i3 (dfR zpe (hr.mono (by decide)) rfl zg (za (n3 1) (za (zw (zfN rfl) rfl T.n_min zgr (za (n3 3) (za (at3 (new3 (zE (za i3 (za i3 zb)))) (dfR zpe (hr.mono (by decide)) rfl zg (za (n3 1) (za i3 zb))) (fun _ _=>rfl)) zb))) zb)))))
      (zc (zny (zq (i:=0) (j:=3) (zo hr) rfl (by walk_at "o") rfl) (n3 4) (zgK rfl T.n_list zev (za (zm (zq (i:=0) (j:=1) (zo hr) rfl (by walk_at "o") rfl)) zb)))
      (zc (zhd (i:=0) (j:=5) (zo hr) rfl (by walk_at "o") rfl non3)
      (ze (zU (jq (za (new3 (zE (za s3 (za (zZ ji rfl T.n_str jg (za (n3 4) zb)) zb)))) (za s3 zb)))))))) zk)
    (zc (s_if (pw3 (Jh (ZA jG jG i3 (n3 2) i3) (JE (zj J1 (dfR zpo (hr.mono (by decide)) rfl zg (za (n3 0) zb)) i3 (nomark _))))) (ze (zek (dfO (i:=0) zpl (hr.mono (by decide)) rfl zg rfl (by walk_at "o") (za (n3 2) (za (n3 1) zb))))) zk)
    (ze (zek (dfO (i:=0) zpk (hr.mono (by decide)) rfl zg rfl (by walk_at "o") (za (n3 2) (za (n3 1) zb)))))))))))),fun o cs Q h=>?_⟩
  obtain⟨k,S,⟨a,l1,l2,l3,l4,l5,qs,fl,rfl,hfl⟩,rfl,I,hk,q⟩:=h;have g:=I.good hk;have t60:=I.t;have n8:=I.n
  walk_at "rd"
  have mo:zT ⟨none,a,[Fl.ow l1 (S.names.map .str),Fl.ow l2 (S.ws.map .int),Fl.ow l3 (S.lims.map dLm),Fl.tp l4 qs (S.spells.map mS),Fl.ow l5 (S.rules.map (dRM S)),fl]⟩ S:=⟨a,l1,l2,l3,l4,l5,qs,fl,rfl,hfl⟩;refine⟨by decide,Bits.lit (x:=12) 64 |>.mono (by decide),fun n hn=>⟨S,rfl,rfl,rfl,ZR _,rfl,Z3 hfl,g.toFew,?_⟩⟩
  obtain⟨hn0,hn1⟩:=hn;have cNew:S.names.length<8→∃ (k:Nat) (S_2:St),zT ⟨none,a,[Fl.ow l1 (S.names.map .str),Fl.ow l2 (S.ws.map .int),Fl.ow l3 (S.lims.map dLm),Fl.tp l4 qs (S.spells.map mS),Fl.ow l5 (S.rules.map (dRM S)),fl]⟩ S_2∧Inv k S_2∧k≤50∧S_2.names.length<8∧∀ (o':Ob) (ws:List Str) (S':St),o'.a=a→zT o' S'→Deed k S_2 ws S' "ok"→∀ f:Bool,o'.a=a∧Q o' f (.tuple [.list (ws.map .str),.str "ok"]):=fun h=>⟨k,S,mo,I,hk,h,fun o' ws S' e1 e2 e3 f=>⟨e1,q o' ws S' _ e1 e2 e3 f⟩⟩
  have cOf:0<S.names.length→∃ (k:Nat) (S_2:St),zT ⟨none,a,[Fl.ow l1 (S.names.map .str),Fl.ow l2 (S.ws.map .int),Fl.ow l3 (S.lims.map dLm),Fl.tp l4 qs (S.spells.map mS),Fl.ow l5 (S.rules.map (dRM S)),fl]⟩ S_2∧Inv k S_2∧k≤50∧0<S_2.names.length∧∀ (o':Ob) (ws:List Str) (S':St),o'.a=a→zT o' S'→Deed k S_2 ws S' "ok"→∀ f:Bool,o'.a=a∧Q o' f (.tuple [.list (ws.map .str),.str "ok"]):=fun h=>⟨k,S,mo,I,hk,h,fun o' ws S' e1 e2 e3 f=>⟨e1,q o' ws S' _ e1 e2 e3 f⟩⟩
  have cTurn:4≤n→n≤7→0<S.names.length→∃ S_2:St,S.names.map PyData.str=S_2.names.map PyData.str∧S.ws.map PyData.int=S_2.ws.map PyData.int∧S.lims.map dLm=S_2.lims.map dLm∧tpD (S.spells.map mS)=S_2.spells.map dSM∧S.rules.map (dRM S)=S_2.rules.map (dRM S_2)∧fl.d=rowD S_2∧Few S_2∧if 0<tot S_2.spells then ∃ (k:Nat) (S_3:St),zT ⟨none,a,[Fl.ow l1 (S.names.map .str),Fl.ow l2 (S.ws.map .int),Fl.ow l3 (S.lims.map dLm),Fl.tp l4 qs (S.spells.map mS),Fl.ow l5 (S.rules.map (dRM S)),fl]⟩ S_3∧4≤n∧n≤7∧Inv k S_3∧k≤50∧0<S_3.names.length∧0<tot S_3.spells∧∀ (o':Ob) (ws:List Str) (S':St),o'.a=a→zT o' S'→Deed k S_3 ws S' "ok"→∀ f:Bool,o'.a=a∧Q o' f (.tuple [.list (ws.map .str),.str "ok"])
      else ∃ (k:Nat) (S_3:St),zT ⟨none,a,[Fl.ow l1 (S.names.map .str),Fl.ow l2 (S.ws.map .int),Fl.ow l3 (S.lims.map dLm),Fl.tp l4 qs (S.spells.map mS),Fl.ow l5 (S.rules.map (dRM S)),fl]⟩ S_3∧Inv k S_3∧k≤50∧0<S_3.names.length∧∀ (o':Ob) (ws:List Str) (S':St),o'.a=a→zT o' S'→Deed k S_3 ws S' "ok"→∀ f:Bool,o'.a=a∧Q o' f (.tuple [.list (ws.map .str),.str "ok"]):=fun h1 h2 h3=>⟨S,rfl,rfl,rfl,ZR _,rfl,Z3 hfl,g.toFew,itp (fun ht=>⟨k,S,mo,h1,h2,I,hk,h3,ht,fun o' ws S' e1 e2 e3 f=>⟨e1,q o' ws S' _ e1 e2 e3 f⟩⟩) fun _=>cOf h3⟩
  have b2:Bits 9000 (2:Int):=Bits.lit (x:=2) 64 |>.mono (by decide)
  have b3:Bits 9000 (3:Int):=Bits.lit (x:=3) 64 |>.mono (by decide)
  have cTold:∀ m:Int,1≤m→tot S.spells+m≤60→S.spells.length<8→S.ws.sum≠0→∀ q1 q2,Q ⟨none,a,[Fl.ow l1 (S.names.map .str),Fl.ow l2 (S.ws.map .int),Fl.ow l3 (S.lims.map dLm),Fl.tp l4 (qs++[(q1,q2)]) (S.spells.map mS++[(.int m,S.ws.map .int)]),Fl.ow l5 (S.rules.map (dRM S)),Fl.sh .none]⟩ true (.tuple [.list [.str "turns", .str (st (tl m))],.str "ok"]):=fun m h1 h2 h3 h4 q1 q2=>by
    have e:=q (modO (S.turns m) a l1 l2 l3 l4 l5 (qs++[(q1,q2)]) (.sh .none)) _ (S.turns m) _ rfl ⟨a,l1,l2,l3,l4,l5,_,_,rfl,rfl⟩ (zmD I hk h1 h2 h3 h4) true;unfold modO St.turns at e;simp only [List.map_append] at e;exact e
  have cRoom:0<60 - tot S.spells→S.spells.length<8→S.ws.sum≠0→0<(2:Int)∧Bits 9000 (2:Int)∧∀ n:Int,zX n 2→∃ d,atI [PyData.int 4,PyData.int 60] n=some d∧match [L3.Cl.sh true (PyData.int (60 - tot S.spells)),L3.Cl.sh true d] with
      | [.sh f (.int i),.sh f_1 (.int j)]=>(0<if j<i then j else i)∧Bits 9000 (if j<i then j else i)∧∀ n:Int,zX n (if j<i then j else i)→(S.spells.map mS).length<sizeLine∧∀ q1 q2:Addr,(1+n).natAbs.log2<1920∧Q ⟨none,a,[Fl.ow l1 (S.names.map .str),Fl.ow l2 (S.ws.map .int),Fl.ow l3 (S.lims.map dLm),Fl.tp l4 (qs++[(q1,q2)]) (S.spells.map mS++[(.int (1+n),S.ws.map .int)]),Fl.ow l5 (S.rules.map (dRM S)),Fl.sh .none]⟩ true (.tuple [.list [.str "turns", .str (Str.ofString (toString (1+n)))],.str "ok"])
      | _=>False:=fun hr hs hw=>by
    have t0:=zep fun s m=>(I.sb s m).2.1
    have fin:∀ j:Int,0<j→j≤60→(0<if j<60 - tot S.spells then j else 60 - tot S.spells)∧Bits 9000 (if j<60 - tot S.spells then j else 60 - tot S.spells)∧∀ n:Int,zX n (if j<60 - tot S.spells then j else 60 - tot S.spells)→(S.spells.map mS).length<sizeLine∧∀ q1 q2:Addr,(1+n).natAbs.log2<1920∧Q ⟨none,a,[Fl.ow l1 (S.names.map .str),Fl.ow l2 (S.ws.map .int),Fl.ow l3 (S.lims.map dLm),Fl.tp l4 (qs++[(q1,q2)]) (S.spells.map mS++[(.int (1+n),S.ws.map .int)]),Fl.ow l5 (S.rules.map (dRM S)),Fl.sh .none]⟩ true (.tuple [.list [.str "turns", .str (Str.ofString (toString (1+n)))],.str "ok"]):=fun j j0 j1=>by
      generalize hz:(if j<60 - tot S.spells then j else 60 - tot S.spells)=z
      have z0:0<z∧z≤60 - tot S.spells:=by rw [←hz];split<;>omega
      refine⟨z0.1,(Bits.lit (x:=z) 64 (by omega)).mono (by decide),fun m hm=>⟨by rw [List.length_map];exact Nat.lt_of_lt_of_le (show _<1000000 by omega) (by decide),fun q1 q2=>⟨?_,?_⟩⟩⟩
      · obtain⟨m0,m1⟩:=hm
        exact Nat.lt_of_lt_of_le ((show Bits 20 (1+m) by unfold Bits;omega).log2 (by decide)) (by decide)
      · obtain⟨m0,m1⟩:=hm
        rw [jc];exact cTold (1+m) (by omega) (by omega) hs hw q1 q2
    refine⟨by decide,b2,fun n hn=>?_⟩
    obtain⟨x0,x1⟩:=hn;obtain rfl|rfl:n=0∨n=1:=by omega
    · exact⟨_,atI0,fin 4 (by decide) (by decide)⟩
    · exact⟨_,atI1,fin 60 (by decide) (by decide)⟩
  refine itp (fun _=>⟨S,rfl,rfl,rfl,ZR _,rfl,Z3 hfl,g,q _ _ S _ rfl mo (zea I) true⟩) fun e11=>itp (fun e10=>⟨by decide,b3,fun m hm=>itp (fun _ l l'=>q (modO S.clear a l1 l2 l3 l l' [] (.sh .none)) _ S.clear _ rfl ⟨a,l1,l2,l3,l,l',[],_,rfl,rfl⟩ (zg2 I) true) fun _=>?_⟩) fun e10=>?_
  · refine itp (fun e0=>cNew (by rw [List.length_map] at e0;omega)) fun e0=>?_
    rw [List.length_map] at e0;refine itp (fun e2=>itp (fun e8=>cNew (by rw [List.length_map] at e8;omega)) fun e8=>?_) fun e2=>?_
    · refine itp (fun e7=>itp (fun er=>itp (fun es=>⟨S.ws,JN _,itp (fun ew=>cRoom er (by rw [List.length_map] at es;omega) (by omega)) fun ew=>?_⟩) fun es=>?_) fun er=>?_) fun e7=>?_
      · refine itp (fun e3=>itp (fun e8=>cTurn (by omega) (by omega) (by omega)) fun e8=>cOf (by omega)) fun e3=>cOf (by omega)
      · refine itp (fun e3=>itp (fun e8=>cTurn (by omega) (by omega) (by omega)) fun e8=>cOf (by omega)) fun e3=>cOf (by omega)
      · refine itp (fun e3=>itp (fun e8=>cTurn (by omega) (by omega) (by omega)) fun e8=>cOf (by omega)) fun e3=>cOf (by omega)
      · refine itp (fun e3=>itp (fun e8=>cTurn (by omega) (by omega) (by omega)) fun e8=>cOf (by omega)) fun e3=>cOf (by omega)
    · refine itp (fun e7=>itp (fun er=>itp (fun es=>⟨S.ws,JN _,itp (fun ew=>cRoom er (by rw [List.length_map] at es;omega) (by omega)) fun ew=>?_⟩) fun es=>?_) fun er=>?_) fun e7=>?_
      · refine itp (fun e3=>itp (fun e8=>cTurn (by omega) (by omega) (by omega)) fun e8=>cOf (by omega)) fun e3=>cOf (by omega)
      · refine itp (fun e3=>itp (fun e8=>cTurn (by omega) (by omega) (by omega)) fun e8=>cOf (by omega)) fun e3=>cOf (by omega)
      · refine itp (fun e3=>itp (fun e8=>cTurn (by omega) (by omega) (by omega)) fun e8=>cOf (by omega)) fun e3=>cOf (by omega)
      · refine itp (fun e3=>itp (fun e8=>cTurn (by omega) (by omega) (by omega)) fun e8=>cOf (by omega)) fun e3=>cOf (by omega)
  · refine itp (fun e0=>cNew (by rw [List.length_map] at e0;omega)) fun e0=>?_
    rw [List.length_map] at e0;refine itp (fun e2=>itp (fun e8=>cNew (by rw [List.length_map] at e8;omega)) fun e8=>?_) fun e2=>?_
    · refine itp (fun e7=>itp (fun er=>itp (fun es=>⟨S.ws,JN _,itp (fun ew=>cRoom er (by rw [List.length_map] at es;omega) (by omega)) fun ew=>?_⟩) fun es=>?_) fun er=>?_) fun e7=>?_
      · refine itp (fun e3=>itp (fun e8=>cTurn (by omega) (by omega) (by omega)) fun e8=>cOf (by omega)) fun e3=>cOf (by omega)
      · refine itp (fun e3=>itp (fun e8=>cTurn (by omega) (by omega) (by omega)) fun e8=>cOf (by omega)) fun e3=>cOf (by omega)
      · refine itp (fun e3=>itp (fun e8=>cTurn (by omega) (by omega) (by omega)) fun e8=>cOf (by omega)) fun e3=>cOf (by omega)
      · refine itp (fun e3=>itp (fun e8=>cTurn (by omega) (by omega) (by omega)) fun e8=>cOf (by omega)) fun e3=>cOf (by omega)
    · refine itp (fun e7=>itp (fun er=>itp (fun es=>⟨S.ws,JN _,itp (fun ew=>cRoom er (by rw [List.length_map] at es;omega) (by omega)) fun ew=>?_⟩) fun es=>?_) fun er=>?_) fun e7=>?_
      · refine itp (fun e3=>itp (fun e8=>cTurn (by omega) (by omega) (by omega)) fun e8=>cOf (by omega)) fun e3=>cOf (by omega)
      · refine itp (fun e3=>itp (fun e8=>cTurn (by omega) (by omega) (by omega)) fun e8=>cOf (by omega)) fun e3=>cOf (by omega)
      · refine itp (fun e3=>itp (fun e8=>cTurn (by omega) (by omega) (by omega)) fun e8=>cOf (by omega)) fun e3=>cOf (by omega)
      · refine itp (fun e3=>itp (fun e8=>cTurn (by omega) (by omega) (by omega)) fun e8=>cOf (by omega)) fun e3=>cOf (by omega)
theorem zk9 (T:Txt c K mg) : zd0 P w K mg base c:=by
  obtain⟨f,fd,F,hm⟩:=T.d_words_of;have S:FnScope ["line"] ["line"] (zf zdm):=⟨rfl,rfl,rfl,by decide +kernel,rfl,by decide +kernel,by decide +kernel⟩
  refine⟨fun ds Q Q' E E' hQ hE h=>?_,⟨f,fd,fn3 F S (fun ds Q E h=>?_) (fun cdv A outer s H E E3 hE hr=>?_),F.binds fun _ _ _ _ _ _ us hl=>by obtain⟨_,rfl⟩:=zV hl;rfl,F.kp,hm⟩⟩
  · walk_at "m"
  · walk_at "l"
  refine⟨_,(ze (zn (new3 (jA ["word"] [] [] rfl (jI (osc:=zf zdm) (by decide +kernel)) rfl (z9 (new3 (zms (n3 0) s3))) (fun H0 s H fp cl=>⟨(zr (i:=0) (show((["word"]:List PySem.Str)++([]:List PySem.Str)).Nodup by decide) rfl (by walk_at "o")),(zbV (zj (jR hr.units) (n3 0) s3 (nomark _))),(n3 0)⟩))))),fun ds Q h=>?_⟩
  obtain⟨l,rfl,hl,hz,q⟩:=h
  walk_at "rd"
  refine⟨by decide,sz (by omega),sz (by omega),by rw [List.length_map];exact sz (by omega),?_⟩
  refine zgR (fun w:Str=>PyData.str w) (fun w=>PyData.str w) (fun w=>decide (w≠"")) (fun ρ=>∃ t,ρ = [t]) _ (fun x _ ρ fa acc K hR hK=>?_) _ _ _ _ ⟨_,rfl⟩ (by walk_at "rd";exact q)
  obtain⟨t,rfl⟩:=hR
  walk_at "rd"
  have h2:=hK [some (.sh true (.str x))] ⟨_,rfl⟩
  by_cases hx:x = ""
  · rw [if_neg (by simp [hx])] at h2 ⊢;exact h2
  · rw [if_pos (by simp [hx])] at h2 ⊢;exact h2
theorem zll (T:Txt c K mg) : zdi P w K mg base c:=by
  obtain⟨f,fd,F,hm⟩:=T.d_form_of;have S:FnScope ["words"] ["words"] (zf zg0):=⟨rfl,rfl,rfl,by decide +kernel,rfl,by decide +kernel,by decide +kernel⟩
  refine⟨fun ds Q Q' E E' hQ hE h=>?_,⟨f,fd,fn3 F S (fun ds Q E h=>?_) (fun cdv A outer s H E E3 hE hr=>?_),F.binds fun _ _ _ _ _ _ us hl=>by obtain⟨_,rfl⟩:=zV hl;rfl,F.kp,hm⟩⟩
  · walk_at "m"
  · walk_at "l"
  refine⟨_,(zc (s_if (zj (zD hr.units) (zw zL rfl T.n_len zM (za (n3 0) zb)) i3 (nomark _)) (ze (zJ hE zI rfl rfl T.m_NoLine T.e_NoLine (za s3 zb))) zk)
    (zc (s_if (zj (zD hr.units) (at3 (n3 0) i3 (fun _ _=>rfl)) s3 (nomark _)) (ze (zn (zif (jq (za s3 zb)) (zw (zlt rfl) rfl T.n_max zm0 (za i3 (za (op3 zbS (zw zL rfl T.n_len zM (za (n3 0) zb)) i3) zb)))))) zk)
    (zc (s_if (zi1 rfl T.m_FORMS (at3 (n3 0) i3 (fun _ _=>rfl))) (ze (zJ hE zI rfl rfl T.m_NoLine T.e_NoLine (za s3 zb))) zk)
    (ze (zn (zfD rfl T.m_FORMS (at3 (n3 0) i3 (fun _ _=>rfl)))))))),fun ds Q h=>?_⟩
  obtain⟨ws,fm,rfl,hl,hf,q⟩:=h;cases ws with
  | nil=>cases hf
  | cons w r=>
    walk_at "rd"
    rw [if_neg (by omega)]
    refine⟨_,atI0,trivial,?_⟩
    change (if w=("row" : Str) then some (List.replicate (max 1 r.length) ("name" : Str)) else KTD.datumAt w Zx)=some fm at hf
    by_cases hw:w = "row"
    · rw [if_pos hw] at hf
      cases hf;have e:(if(((List.map PyData.str r).length+1:Nat):Int) - 1 > 1 then(((List.map PyData.str r).length+1:Nat):Int) - 1 else 1)=((max 1 r.length:Nat):Int):=by rw [List.length_map];split<;>omega
      rw [List.length_cons] at hl;rw [if_pos (by simp [hw]),e,Int.toNat_natCast,zfA]
      have:=q true;unfold dTt at this;rw [List.map_replicate] at this;exact⟨by simp,by omega,by omega,by omega,this⟩
    · rw [if_neg hw] at hf
      rw [if_neg (by simp [hw])]
      have e:=zkb hf;refine⟨_,atI0,_,rfl,by rw [e],_,atI0,_,rfl,?_⟩
      rw [e];exact q _
theorem zkL (T:Txt c K mg) : zdA P w K mg base c:=by
  obtain⟨f,fd,F,hm⟩:=T.d_check_form;have S:FnScope ["words", "form"] ["words", "form"] (zf zet):=⟨rfl,rfl,rfl,by decide +kernel,rfl,by decide +kernel,by decide +kernel⟩
  refine⟨fun ds Q Q' E E' hQ hE h=>?_,⟨f,fd,fn3 F S (fun ds Q E h=>?_) (fun cdv A outer s H E E3 hE hr=>?_),F.binds fun _ _ _ _ _ _ us hl=>by obtain⟨_,_,rfl⟩:=zF hl;rfl,F.kp,hm⟩⟩
  · walk_at "m"
  · walk_at "l"
  refine⟨_,(zc (s_if (zj (jR hr.units) (zw zL rfl T.n_len zM (za (n3 0) zb)) (op3 zu (zw zL rfl T.n_len zM (za (n3 1) zb)) i3) (nomark _)) (ze (zJ hE zI rfl rfl T.m_NoLine T.e_NoLine (za s3 zb))) zk)
    (ze (s_if (pw3 (Jh (zj (zD hr.units) (at3 (n3 0) i3 (fun _ _=>rfl)) s3 (nomark _)) (JE (zj (zD hr.units) (at3 (n3 0) i3 (fun _ _=>rfl)) (at3 (n3 0) i3 (fun _ _=>rfl)) (nomark _))))) (ze (zJ hE zI rfl rfl T.m_NoLine T.e_NoLine (za s3 zb))) zk))),fun ds Q h=>?_⟩
  obtain⟨ws,fm,rfl,hl,hm,hm3,q⟩:=h
  walk_at "rd"
  rw [if_neg (by rw [List.length_map,List.length_map];omega)]
  cases ws with
  | nil=>cases hl
  | cons w r=>
    refine⟨_,atI0,trivial,?_⟩
    by_cases hw:w = "merge"
    · rw [if_pos (by simp [hw])]
      have h3:=hm3 (by simp [hw])
      match r,h3 with
      | a::b::r,_=>
        refine⟨_,atI1,_,at2',trivial,?_⟩
        rw [if_neg (by simp [hm a b r (by rw [hw])])]
        exact q
    · rw [if_neg (by simp [hw])];exact q
theorem zim (T:Txt c K mg) : zc7 P w K mg base c:=by
  obtain⟨f,fd,F,hm⟩:=T.d_clan_of;have S:FnScope ["word", "names"] ["word", "names"] (zf zhI):=⟨rfl,rfl,rfl,by decide +kernel,rfl,by decide +kernel,by decide +kernel⟩
  refine⟨fun ds Q Q' E E' hQ hE h=>?_,⟨f,fd,fn3 F S (fun ds Q E h=>?_) (fun cdv A outer s H E E3 hE hr=>?_),F.binds fun _ _ _ _ _ _ us hl=>by obtain⟨_,_,rfl⟩:=zF hl;rfl,F.kp,hm⟩⟩
  · walk_at "m"
  · walk_at "l"
  refine⟨_,(zc (s_if (zj zcC (n3 0) (n3 1) (by with_unfolding_all rfl)) (ze (zJ hE zI rfl rfl T.m_NoName T.e_NoName (za s3 zb))) zk)
    (ze (zn (ziy (n3 1) (n3 0))))),fun ds Q h=>?_⟩
  obtain⟨x,ns,rfl,hx,q⟩:=h
  walk_at "rd"
  refine⟨ns,jP ns,?_⟩
  rw [if_neg (by rw [zcj];simp [hx])]
  exact⟨ns,jP ns,hx,q⟩
theorem zkR (T:Txt c K mg) : zbI P w K mg base c:=by
  obtain⟨f,fd,F,hm⟩:=T.d_is_made_of;have S:FnScope ["word", "signs", "longest"] ["word", "signs", "longest"] (zf zdQ):=⟨rfl,rfl,rfl,by decide +kernel,rfl,by decide +kernel,by decide +kernel⟩
  refine⟨fun ds Q Q' E E' hQ hE h=>?_,⟨f,fd,fn3 F S (fun ds Q E h=>?_) (fun cdv A outer s H E E3 hE hr=>?_),F.binds fun _ _ _ _ _ _ us hl=>by obtain⟨_,_,_,rfl⟩:=J6 hl;rfl,F.kp,hm⟩⟩
  · walk_at "m"
  · walk_at "l"
  refine⟨_,(ze (zn (zcE (cmp3 j9 (zw zL rfl T.n_len zM (za (n3 0) zb)) (n3 2) (nomark _)) (one3 (zw (zis rfl) rfl T.n_all zh4 (za (new3 (jA ["sign"] ["signs"] [1] rfl (jI (osc:=zf zdQ) (by decide +kernel)) rfl (zhw (n3 0)) (fun H0 s H fp cl=>⟨(zr (i:=0) (show((["sign"]:List PySem.Str)++(["signs"]:List PySem.Str)).Nodup by decide) rfl (by walk_at "o")),Jm,(cmp3 zlj (n3 0) (n3 1) (by with_unfolding_all rfl))⟩))) zb)))))),fun ds Q h=>?_⟩
  obtain⟨l,s,n,rfl,h1,h2,h3,q⟩:=h
  walk_at "rd"
  rw [if_pos (by rw [zp];exact sz (by omega))]
  refine⟨_,rfl,?_⟩
  rw [if_pos (by rw [zp];exact h1)]
  have es:L3.signs (st l)=l.map fun x=>PyData.str (st [x]):=by unfold L3.signs;rw [ju];rfl
  rw [es];refine⟨by rw [List.length_map];exact sz (by omega),?_⟩
  refine Jp (fun x:Nat=>PyData.str (st [x])) (fun x=>PyData.bool true) (fun ρ=>∃ t,ρ = [t,some (.sh true (.str s))]) _ (fun x hx ρ fa acc K hR hK=>?_) _ _ _ _ ⟨_,rfl⟩ ?_
  · obtain⟨t,rfl⟩:=hR
    walk_at "rd"
    have h5:=h3 x hx;unfold isIn at h5;simp only [inS3,h5,Bool.and_true,Bool.false_eq_true,if_false];exact hK _ ⟨_,rfl⟩
  · refine⟨l.map fun _=>true,?_,?_⟩
    · rw [List.nil_append]
      have:(l.map fun _=>PyData.bool true)=(l.map fun _=>true).map PyData.bool:=by rw [List.map_map];rfl
      rw [this];exact zjo _
    · rw [show(l.map fun _=>true).all id=true by simp];exact q
theorem zmu (T:Txt c K mg) (zo9:zbI P w K mg base c):zcv P w K mg base c:=by
  obtain⟨f,fd,F,hm⟩:=T.d_number_of;have S:FnScope ["word"] ["word"] (zf zhE):=⟨rfl,rfl,rfl,by decide +kernel,rfl,by decide +kernel,by decide +kernel⟩
  refine⟨fun ds Q Q' E E' hQ hE h=>?_,⟨f,fd,fn3 F S (fun ds Q E h=>?_) (fun cdv A outer s H E E3 hE hr=>?_),F.binds fun _ _ _ _ _ _ us hl=>by obtain⟨_,rfl⟩:=zV hl;rfl,F.kp,hm⟩⟩
  · walk_at "m"
  · walk_at "l"
  refine⟨_,(zc (s_if (Jf (val3 (df3 hE zo9 (hr.mono (by decide)) rfl zg (za (n3 0) (za (g3s rfl T.m_FIGURES) (za (g3i rfl T.m_LONGEST_NUMBER) zb)))))) (ze (zJ hE zI rfl rfl T.m_NoNumber T.e_NoNumber (za s3 zb))) zk)
    (zc (s_if (pw3 (Jh (zj (zD hr.units) (at3 (n3 0) i3 (fun _ _=>rfl)) s3 (nomark _)) (JE (zj (jR hr.units) (n3 0) s3 (nomark _))))) (ze (zJ hE zI rfl rfl T.m_NoNumber T.e_NoNumber (za s3 zb))) zk)
    (ze (zn (zZ zfJ rfl T.n_int zbz (za (n3 0) zb)))))),fun ds Q h=>?_⟩
  obtain⟨m,rfl,hm,q⟩:=h
  walk_at "rd"
  obtain⟨hl1,hl2⟩:=JR 12 m (by decide) hm
  have ha:=Zs m;have hi:intText? (st (dg m))=some ((m:Nat):Int):=by
    have hr:=PySem.intText_digits (x:=st (dg m)) (by rw [ju];exact ha) (by rw [ju];intro z;rw [z] at hl1;simp at hl1) (by rw [zp];omega)
    rw [ju,zel] at hr;exact hr
  have fin:∃ n,intText? (st (dg m))=some n∧(st (dg m)).length≤640∧Q true (PyData.int n):=⟨_,hi,by rw [zp];omega,q⟩
  refine⟨_,rfl,by omega,by decide,fun c hc=>zlh (ha c hc),?_⟩
  rw [if_pos (by rw [zp];exact sz (by omega)),ju]
  cases e:dg m with
  | nil=>rw [e] at hl1;simp at hl1
  | cons a r=>
    refine⟨_,by rw [atI0];rfl,trivial,?_⟩
    show if decide (st [a]=("0" : Str))=true then(if ¬st (a::r)=("0" : Str) then _ else _) else _
    have h48:(Str.ofString "0")=st [48]:=by decide +kernel
    rw [←e]
    by_cases hz:a=48
    · rw [if_pos (by rw [hz,h48];simp),if_neg ?_]
      · exact fin
      · intro hn
        by_cases h0:m=0
        · subst h0;exact hn (by decide +kernel)
        · have:=zmk (m:=m) (by omega)
          rw [e] at this
          simp [hz] at this
    · rw [if_neg (by rw [h48,decide_eq_true_eq];intro z;have:=zcR z;simp at this;exact hz this)];exact fin
theorem zjH (T:Txt c K mg) : zbO P w K mg base c:=by
  obtain⟨f,fd,F,hm⟩:=T.d_number_in;have S:FnScope ["figures", "sign"] ["figures"] (zf ze0):=⟨rfl,rfl,rfl,by decide +kernel,rfl,by decide +kernel,by decide +kernel⟩
  refine⟨fun ds Q Q' E E' hQ hE h=>?_,⟨f,fd,fn3 F S (fun ds Q E h=>?_) (fun cdv A outer s H E E3 hE hr=>?_),F.binds fun _ _ _ _ _ _ us hl=>by obtain⟨_,rfl⟩:=zV hl;rfl,F.kp,hm⟩⟩
  · walk_at "m"
  · walk_at "l"
  refine⟨_,(zc (s_if (Jf (ZA j9 j9 i3 (zw zL rfl T.n_len zM (za (n3 0) zb)) (g3i rfl T.m_MOST_FIGURES))) (ze (zJ hE zI rfl rfl T.m_NoText T.e_NoText (za s3 zb))) zk)
    (zc (zY PassesOwn.leaving rfl (zhw (n3 0)) (zr (i:=1) S.nd rfl (by walk_at "o")) (ze (s_if (zj zoo (n3 1) (g3s rfl T.m_FIGURES) (by with_unfolding_all rfl)) (ze (zJ hE zI rfl rfl T.m_NoText T.e_NoText (za s3 zb))) zk)))
    (ze (zn (zZ zfJ rfl T.n_int zbz (za (n3 0) zb)))))),fun ds Q h=>?_⟩
  obtain⟨l,rfl,hl,q,hE'⟩:=h;have hz:(st l).length≤sizeLine:=by rw [zp];exact sz (by omega)
  have hz':l.length≤sizeLine:=by rw [←zp];exact hz
  simp (config:={ maxSteps:=2000000 }) only [seq3,next3,set3,own3,ret3,ifS3,tt3,o3,u3,v3,atV,asS,asB,asD,optP,asT,asLd,asL,atO,J5,nilP,asId,asI,k3,nw3,add3,int3,int0,neg3,eq3,ne3,eqOk,eqv3,notN3,isNone,ix3,ixD,Je,nil3,za2,cb3,len3,lenD,abs3,max23,min23,sum3,all3,and3,or3,not3,zbs,za7,ch3,tup3,lst3,Z9,catN,slL3,no3,zaP,zaK,L2.isD,Z4,gn3,ZC,JG,gnil3,app3,put3,frzS,frz,frz1,for3,itL,itT,itS,rg1,rg2,JL,true3,cst3,zac,strI3,j7,shs,Cl.d,Cl.dat,Cl.f,zx,Option.map_some,Option.map_none,Option.isSome_some,Option.isSome_none,Option.join_some,Option.join_none,List.all_cons,List.all_nil,Bool.and_true,Bool.true_and,Bool.and_self,Bool.or_false,Bool.false_or,Bool.or_true,Bool.true_or,List.map_cons,List.map_nil,List.length_cons,List.length_nil,Nat.reduceAdd,Nat.reduceSub,Nat.sub_self,List.replicate,List.cons_append,List.nil_append,List.append_nil,List.getElem?_cons_zero,List.getElem?_cons_succ,List.set_cons_zero,List.set_cons_succ,Option.some.injEq,Cl.sh.injEq,PyData.int.injEq,PyData.bool.injEq,PyData.str.injEq,PyData.list.injEq,PyData.tuple.injEq,List.cons.injEq,reduceCtorEq,and_assoc,and_true,true_and,and_self,exists_eq_left,exists_eq_left',exists_eq',exists_eq_right,exists_eq_right',exists_and_left,exists_const,exists_false,false_and,and_false,or_false,false_or,or_true,true_or,decide_true,decide_false,decide_eq_true_eq,Bool.not_true,Bool.not_false,Bool.false_eq_true,Bool.true_eq_false,if_true,if_false,ite_true,ite_false,Bool.not_eq_true',decide_eq_false_iff_not,eq_self_iff_true,not_true_eq_false,not_false_eq_true,sz0,sz1,sz2,sz3,sz4,sz7,sz9,intS3,stS3,ptS3,slS3,fs3,atF,atB,flO,flT,fld3,ZU,zaA,zag,zbm,JY,JK,ftp3,zaO,zbn,Ob.put,Fl.c,Fl.d,isBg,Zq,zaf,Zf,okA,argC,argR,jH,zah,jX,Jr,atL,jB,zbg,Zy,zaN,zas,Z0,ifX3,J3,zam,za5,zaR,newM,newD,jr,spN,jn3,mulS3,inL3,zbf,Z6,intB3,itET,za6,zbq,zba,ans3,spRO,k3f,thF,nols,nol,Option.bind_some,Cl.fo.injEq,Ob.mk.injEq,Fl.ow.injEq,Fl.sh.injEq,Option.isSome,List.map,List.all_map,zaS,zav,zbj,zaL,za8,zaI,zao,zaF,zbb,zap,zbd,zaa,Z5,Zm,ZV,ZY,zay,zbt,ZX,zaM,zae,zaX,ZW,zax,za9,zaH,ZZ,zbc,zaG,zbp,ZN,Zd,ZM,za4,zbh,Z7,ZQ,zaE,zbi,Zg,zaC,zal,Ze,ZG,ZB,zak,Zc,J7,zar,zaz,zaZ,Z2,Zb,JU,Zh,J0,dI,dSs,dS,dQ,dP,dPs,dSt,dTt,jK,OK,dRD,jp,isBg,jt,modO,zp,if_pos hz']
  by_cases h1:1≤(l.length:Int)
  case neg=>rw [if_neg h1];exact hE' (if_neg fun z=>h1 (by have:=z.1;omega))
  rw [if_pos h1]
  by_cases h2:(l.length:Int)≤60
  case neg=>rw [if_pos h2];exact hE' (if_neg fun z=>h2 (by have:=z.2.1;omega))
  rw [if_neg (fun z=>z h2)]
  have es:L3.signs (st l)=l.map fun x=>PyData.str (st [x]):=by unfold L3.signs;rw [ju];rfl
  rw [es];refine z7 (fun x:Nat=>PyData.str (st [x])) l (fun done ρ=>∃ t,ρ = [some (.sh true (.str (st l))),t]∧∀ x∈done,48≤x∧x≤57) ?_ ?_ ⟨none,rfl,fun x h=>by cases h⟩
  · rintro done x rest ρ hd ⟨t,rfl,hall⟩ W hW
    walk_at "rd inS3 zlE"
    by_cases hx:48≤x∧x≤57
    · rw [if_neg (fun z=>z hx)]
      exact hW _ ⟨_,rfl,fun y hy=>by
        rcases List.mem_append.mp hy with z|z
        · exact hall y z
        · rw [List.mem_singleton.mp z];exact hx⟩
    · rw [if_pos hx]
      exact hE' (if_neg fun z=>hx (z.2.2 x (by rw [hd];simp)))
  · rintro ρ ⟨t,rfl,hall⟩
    walk_at "rd"
    have hne:(st l).cps.toList≠[]:=by rw [ju];intro z;rw [z] at h1;simp at h1
    have hr:=PySem.intText_digits (x:=st l) (by rw [ju];exact hall) hne (by rw [zp];omega)
    rw [ju] at hr;exact⟨_,hr,by rw [zp];omega,q _ (if_pos ⟨by omega,by omega,hall⟩)⟩
theorem zkH (T:Txt c K mg) (zpt:zbO P w K mg base c):zda P w K mg base c:=by
  obtain⟨f,fd,F,hm⟩:=T.d_top_in;have S:FnScope ["text"] ["text"] (zf zfT):=⟨rfl,rfl,rfl,by decide +kernel,rfl,by decide +kernel,by decide +kernel⟩
  refine⟨fun ds Q Q' E E' hQ hE h=>?_,⟨f,fd,fn3 F S (fun ds Q E h=>?_) (fun cdv A outer s H E E3 hE hr=>?_),F.binds fun _ _ _ _ _ _ us hl=>by obtain⟨_,rfl⟩:=zV hl;rfl,F.kp,hm⟩⟩
  · walk_at "m"
  · walk_at "l"
  refine⟨_,(zc (s_if (val3 (zjQ (n3 0) s3)) (ze (zn (un3 zhm (df3 hE zpt (hr.mono (by decide)) rfl zg (za (zbk (n3 0) (Zk i3) Zj) zb))))) zk)
    (ze (zn (df3 hE zpt (hr.mono (by decide)) rfl zg (za (n3 0) zb))))),fun ds Q h=>?_⟩
  obtain⟨l,rfl,hl,q,hE'⟩:=h;have hz:(st l).length≤sizeLine:=by rw [zp];exact sz (by omega)
  walk_at "rd zne znp"
  unfold topV at q hE'
  by_cases hm:l.head?=some 45
  · rw [if_pos hm]
    simp only [if_pos hm] at q hE';cases l with
    | nil=>simp at hm
    | cons x r=>
      rw [List.tail_cons] at q hE';refine⟨hz,r,zmg x r,by rw [List.length_cons] at hl;omega,fun v hv=>q _ (by rw [hv];rfl),fun hv=>hE' (by rw [hv];rfl)⟩
  · rw [if_neg hm]
    simp only [if_neg hm] at q hE';exact⟨l,rfl,hl,q,hE'⟩
theorem zkw (T:Txt c K mg) : zdW P w K mg base c:=by
  obtain⟨f,fd,F,hm⟩:=T.d_common_divisor;have S:FnScope ["one", "other", "greater", "lesser", "rest"] ["one", "other"] (zf zf9):=⟨rfl,rfl,rfl,by decide +kernel,rfl,by decide +kernel,by decide +kernel⟩
  refine⟨fun ds Q Q' E E' hQ hE h=>?_,⟨f,fd,fn3 F S (fun ds Q E h=>?_) (fun cdv A outer s H E E3 hE hr=>?_),F.binds fun _ _ _ _ _ _ us hl=>by obtain⟨_,_,rfl⟩:=zF hl;rfl,F.kp,hm⟩⟩
  · walk_at "m"
  · walk_at "l"
  refine⟨_,(zc (zl (i:=2) S.nd rfl (by walk_at "o") (zw zgS rfl T.n_abs zgF (za (n3 0) zb)))
    (zc (zl (i:=3) S.nd rfl (by walk_at "o") (zw zgS rfl T.n_abs zgF (za (n3 1) zb)))
    (zc (zgh PassesOwn.leaving (zj (jR hr.units) (n3 3) i3 (nomark _)) (zc (zl (i:=4) S.nd rfl (by walk_at "o") (op3 zN (n3 2) (n3 3)))
      (zc (zl (i:=2) S.nd rfl (by walk_at "o") (n3 3))
      (ze (zl (i:=3) S.nd rfl (by walk_at "o") (n3 4))))))
    (ze (zn (n3 2)))))),fun ds Q h=>?_⟩
  obtain⟨a,b,rfl,q⟩:=h
  walk_at "rd"
  refine⟨_,zeo (fun n ρ=>∃ g l r,ρ = [some (.sh true (.int a)),some (.sh true (.int b)),some (.sh true (.int g)),some (.sh true (.int l)),r]∧0≤g∧0≤l∧Int.gcd g l=Int.gcd a b∧n=l.toNat) ?_ _ _ ⟨_,_,_,rfl,by split<;>omega,by split<;>omega,zkg a b,rfl⟩⟩
  rintro n ρ ⟨g,l,r,rfl,hg,hl,hG,rfl⟩ W hW
  walk_at "rd"
  by_cases h0:l=0
  · rw [if_neg (fun z=>z h0)]
    subst h0;rw [←hG,zdP hg] at q;exact q
  · rw [if_pos h0]
    have hp:0<l:=by omega
    have h1:=Int.emod_nonneg g h0;have h2:=Int.emod_lt_of_pos g hp;exact⟨hp,hW (g%l).toNat _ (by omega) ⟨l,g%l,_,rfl,hl,h1,(zgQ hg hp).trans hG,rfl⟩⟩
theorem zoU (T:Txt c K mg) : zcu P w K mg base c:=by
  obtain⟨f,fd,F,hm⟩:=T.d_is_whole;have S:FnScope ["value"] ["value"] (zf zfU):=⟨rfl,rfl,rfl,by decide +kernel,rfl,by decide +kernel,by decide +kernel⟩
  refine⟨fun ds Q Q' E E' hQ hE h=>?_,⟨f,fd,fn3 F S (fun ds Q E h=>?_) (fun cdv A outer s H E E3 hE hr=>?_),F.binds fun _ _ _ _ _ _ us hl=>by obtain⟨_,rfl⟩:=zV hl;rfl,F.kp,hm⟩⟩
  · walk_at "m"
  · walk_at "l"
  refine⟨_,(ze (zn (zcE (zdb rfl T.n_isinstance rfl rfl T.n_int zbz (n3 0)) (one3 (zmW (zdb rfl T.n_isinstance rfl rfl T.n_bool zoJ (n3 0))))))),fun ds Q h=>?_⟩
  obtain⟨a,rfl,q⟩:=h
  walk_at "rd"
  exact⟨false,if_neg (by decide),q⟩
theorem znB (T:Txt c K mg) (zo7:zdW P w K mg base c) (zpa:zcu P w K mg base c):zcX P w K mg base c:=by
  obtain⟨f,fd,F,hm⟩:=T.d_ratio;have S:FnScope ["top", "bottom", "divisor"] ["top", "bottom"] (zf zgt):=⟨rfl,rfl,rfl,by decide +kernel,rfl,by decide +kernel,by decide +kernel⟩
  refine⟨fun ds Q Q' E E' hQ hE h=>?_,⟨f,fd,fn3 F S (fun ds Q E h=>?_) (fun cdv A outer s H E E3 hE hr=>?_),F.binds fun _ _ _ _ _ _ us hl=>by obtain⟨_,_,rfl⟩:=zF hl;rfl,F.kp,hm⟩⟩
  · walk_at "m"
  · walk_at "l"
  refine⟨_,(zc (s_if (pw3 (zcJ (Jf (val3 (df3 hE zpa (hr.mono (by decide)) rfl zg (za (n3 0) zb)))) (zdI (Jf (val3 (df3 hE zpa (hr.mono (by decide)) rfl zg (za (n3 1) zb))))))) (ze (zJ hE zI rfl rfl T.m_NoRatio T.e_NoRatio (za s3 zb))) zk)
    (zc (s_if (zj (zD hr.units) (n3 1) i3 (nomark _)) (ze (zJ hE zI rfl rfl T.m_NoRatio T.e_NoRatio (za s3 zb))) zk)
    (zc (zl (i:=2) S.nd rfl (by walk_at "o") (df3 hE zo7 (hr.mono (by decide)) rfl zg (za (n3 0) (za (n3 1) zb))))
    (zc (s_if (zj jG (n3 1) i3 (nomark _)) (ze (zl (i:=2) S.nd rfl (by walk_at "o") (un3 zhm (n3 2)))) zk)
    (ze (zn (jq (za (op3 jn (n3 0) (n3 2)) (za (op3 jn (n3 1) (n3 2)) zb))))))))),fun ds Q h=>?_⟩
  obtain⟨a,b,rfl,hb,hB,q⟩:=h
  walk_at "rd"
  rw [if_neg (by omega),if_neg (by omega)]
  exact⟨zdZ hb hB,zdZ hb hB,q⟩
theorem zlA (T:Txt c K mg) : zbN P w K mg base c:=by
  obtain⟨f,fd,F,hm⟩:=T.d_shown;have S:FnScope ["one", "top", "bottom"] ["one"] (zf zhK):=⟨rfl,rfl,rfl,by decide +kernel,rfl,by decide +kernel,by decide +kernel⟩
  refine⟨fun ds Q Q' E E' hQ hE h=>?_,⟨f,fd,fn3 F S (fun ds Q E h=>?_) (fun cdv A outer s H E E3 hE hr=>?_),F.binds fun _ _ _ _ _ _ us hl=>by obtain⟨_,rfl⟩:=zV hl;rfl,F.kp,hm⟩⟩
  · walk_at "m"
  · obtain⟨_,_,rfl,_⟩:=h;rfl
  refine⟨_,(zc (zl (i:=1) S.nd rfl (by walk_at "o") (at3 (n3 0) i3 (fun _ _=>rfl)))
    (zc (zl (i:=2) S.nd rfl (by walk_at "o") (at3 (n3 0) i3 (fun _ _=>rfl)))
    (zc (s_if (zj (zD hr.units) (n3 2) i3 (nomark _)) (ze (zn (zZ ji rfl T.n_str jg (za (n3 1) zb)))) zk)
    (ze (zn (znv (n3 1) (n3 2))))))),fun ds Q h=>?_⟩
  obtain⟨a,b,rfl,ha,hb,q⟩:=h
  walk_at "rd atI0 atI1"
  have la:=ha.log2 (by decide)
  have lb:=hb.log2 (by decide)
  have na:=zcd ha;have nb:=zcd hb;rw [jc a,jc b,zc8,Js,Js,zp,zp,zp];unfold txR at q
  by_cases h1:b=1
  · rw [if_pos h1] at q ⊢
    exact⟨by omega,q⟩
  · rw [if_neg h1] at q ⊢
    refine⟨by omega,sz (by omega),sz ?_,by omega,sz ?_,?_⟩
    · rw [List.length_append];simp only [List.length_cons,List.length_nil];omega
    · rw [List.length_append,List.length_append];simp only [List.length_cons,List.length_nil];omega
    · rw [List.append_assoc];exact q
theorem zhQ (T:Txt c K mg) (zpM:zda P w K mg base c) (zpw:zcX P w K mg base c) (zpt:zbO P w K mg base c) (zpz:zbN P w K mg base c):zdE P w K mg base c:=by
  obtain⟨f,fd,F,hm⟩:=T.d_read;have S:FnScope ["text", "parts", "top", "bottom", "one"] ["text"] (zf zfm):=⟨rfl,rfl,rfl,by decide +kernel,rfl,by decide +kernel,by decide +kernel⟩
  refine⟨fun ds Q Q' E E' hQ hE h=>?_,⟨f,fd,fn3 F S (fun ds Q E h=>?_) (fun cdv A outer s H E E3 hE hr=>?_),F.binds fun _ _ _ _ _ _ us hl=>by obtain⟨_,rfl⟩:=zV hl;rfl,F.kp,hm⟩⟩
  · walk_at "m"
  · walk_at "l"
  refine⟨_,(zc (zl (i:=1) S.nd rfl (by walk_at "o") (zoL (n3 0) s3))
    (zc (zl (i:=2) S.nd rfl (by walk_at "o") (df3 hE zpM (hr.mono (by decide)) rfl zg (za (at3 (n3 1) i3 (fun _ _=>rfl)) zb)))
    (zc (zl (i:=3) S.nd rfl (by walk_at "o") i3)
    (zc (s_if (zj (jR hr.units) (at3 (n3 1) i3 (fun _ _=>rfl)) s3 (nomark _)) (ze (zl (i:=3) S.nd rfl (by walk_at "o") (df3 hE zpt (hr.mono (by decide)) rfl zg (za (at3 (n3 1) i3 (fun _ _=>rfl)) zb)))) zk)
    (zc (s_if (zj (zD hr.units) (n3 3) i3 (nomark _)) (ze (zJ hE zI rfl rfl T.m_NoText T.e_NoText (za s3 zb))) zk)
    (zc (zl (i:=4) S.nd rfl (by walk_at "o") (df3 hE zpw (hr.mono (by decide)) rfl zg (za (n3 2) (za (n3 3) zb))))
    (zc (s_if (zj (jR hr.units) (df3 hE zpz (hr.mono (by decide)) rfl zg (za (n3 4) zb)) (n3 0) (nomark _)) (ze (zJ hE zI rfl rfl T.m_NoText T.e_NoText (za s3 zb))) zk)
    (ze (zn (n3 4)))))))))),fun ds Q h=>?_⟩
  obtain⟨l,rfl,hl,q,hE'⟩:=h;have hz:(st l).length≤sizeLine:=by rw [zp];exact sz (by omega)
  walk_at "rd zc8 zjq atI0 atI1"
  have tk:(l.takeWhile (·≠47)).length≤l.length:=(List.takeWhile_sublist _).length_le;have dk:(l.dropWhile (·≠47)).tail.length≤l.length:=by
    have:=(List.dropWhile_sublist (l:=l) (fun x=>decide (x≠47))).length_le
    rw [List.length_tail];omega
  refine⟨by rw [zp];rfl,hz,_,rfl,by omega,fun t ht=>?_,fun ht=>hE' (by unfold jN;rw [ht];rfl)⟩
  by_cases h47:47∈l
  · simp only [if_pos h47]
    rw [if_pos (by rw [zgH];intro z;have:=zcR z;cases this)]
    refine⟨_,rfl,_,rfl,by omega,fun b hb=>?_,fun hb=>hE' (by unfold jN;rw [ht,if_pos h47,hb];rfl)⟩
    have hr:=ze3 ht (b:=b) (by rw [if_pos h47];exact hb)
    by_cases h0:b=0
    · rw [if_pos h0];exact hE' (by rw [hr,if_pos h0])
    · rw [if_neg h0]
      exact zgA (zff ht) (by have:=(zb7 hb).1;omega) (zb7 hb).2 hr q hE'
  · simp only [if_neg h47]
    rw [if_neg (by rw [zgH];exact fun z=>z rfl),if_neg (by decide)]
    exact zgA (zff ht) (by decide) (by decide) (ze3 ht (b:=1) (by rw [if_neg h47])) q hE'
theorem zka (T:Txt c K mg) (zo9:zbI P w K mg base c):zcD P w K mg base c:=by
  obtain⟨f,fd,F,hm⟩:=T.d_new_name;have S:FnScope ["word"] ["word"] (zf zfn):=⟨rfl,rfl,rfl,by decide +kernel,rfl,by decide +kernel,by decide +kernel⟩
  refine⟨fun ds Q Q' E E' hQ hE h=>?_,⟨f,fd,fn3 F S (fun ds Q E h=>?_) (fun cdv A outer s H E E3 hE hr=>?_),F.binds fun _ _ _ _ _ _ us hl=>by obtain⟨_,rfl⟩:=zV hl;rfl,F.kp,hm⟩⟩
  · walk_at "m"
  · walk_at "l"
  refine⟨_,(zc (s_if (Jf (val3 (df3 hE zo9 (hr.mono (by decide)) rfl zg (za (n3 0) (za (g3s rfl T.m_LETTERS) (za (g3i rfl T.m_MOST_LETTERS) zb)))))) (ze (zJ hE zI rfl rfl T.m_NoName T.e_NoName (za s3 zb))) zk)
    (ze (zn (n3 0)))),fun ds Q h=>?_⟩
  obtain⟨x,rfl,hx,q⟩:=h
  walk_at "rd"
  obtain⟨l,e,h1,h2,h3⟩:=hx;exact⟨l,e,by omega,by decide,fun c hc=>zjd (h3 c hc),q⟩
theorem ziK (T:Txt c K mg) (zo6:zc7 P w K mg base c) (zpu:zcv P w K mg base c) (zpx:zdE P w K mg base c) (zps:zcD P w K mg base c):zc6 P w K mg base c:=by
  obtain⟨f,fd,F,hm⟩:=T.d_value_of;have S:FnScope ["kind", "word", "names"] ["kind", "word", "names"] (zf zgq):=⟨rfl,rfl,rfl,by decide +kernel,rfl,by decide +kernel,by decide +kernel⟩
  refine⟨fun ds Q Q' E E' hQ hE h=>?_,⟨f,fd,fn3 F S (fun ds Q E h=>?_) (fun cdv A outer s H E E3 hE hr=>?_),F.binds fun _ _ _ _ _ _ us hl=>by obtain⟨_,_,_,rfl⟩:=J6 hl;rfl,F.kp,hm⟩⟩
  · walk_at "m"
  · walk_at "l"
  refine⟨_,(zc (s_if (zj (zD hr.units) (n3 0) s3 (nomark _)) (ze (zn (df3 hE zpu (hr.mono (by decide)) rfl zg (za (n3 1) zb)))) zk)
    (zc (s_if (zj (zD hr.units) (n3 0) s3 (nomark _)) (ze (zn (df3 hE zpx (hr.mono (by decide)) rfl zg (za (n3 1) zb)))) zk)
    (zc (s_if (zj (zD hr.units) (n3 0) s3 (nomark _)) (ze (zn (df3 hE zps (hr.mono (by decide)) rfl zg (za (n3 1) zb)))) zk)
    (ze (zn (df3 hE zo6 (hr.mono (by decide)) rfl zg (za (n3 1) (za (n3 2) zb)))))))),fun ds Q h=>?_⟩
  obtain⟨k,w,ns,d,rfl,hv,q⟩:=h
  walk_at "rd"
  rcases hv with ⟨rfl,m,hm,rfl,rfl⟩|⟨rfl,a,b,hb,hg,ha,hB,rfl,rfl⟩|⟨rfl,hn,rfl⟩|⟨rfl,hn,rfl⟩
  · rw [if_pos rfl];exact⟨m,rfl,hm,q⟩
  · rw [if_neg (by decide +kernel),if_pos rfl]
    have hr:=zoh hb hg ha hB;refine⟨_,rfl,?_,fun a' b' e=>?_,fun e=>?_⟩
    · have n1:=Ja (n:=a) (k:=60) (by decide) ha
      have n2:=Ja (n:=b) (k:=60) (by decide) hB
      unfold txR
      split
      · omega
      · rw [List.length_append,List.length_cons];omega
    · rw [hr] at e;cases e;exact q
    · rw [hr] at e;cases e
  · rw [if_neg (by decide +kernel),if_neg (by decide +kernel),if_pos rfl];exact⟨hn,q⟩
  · rw [if_neg (by decide +kernel),if_neg (by decide +kernel),if_neg (by decide +kernel)];exact⟨ns,rfl,hn,q⟩
theorem zkY (T:Txt c K mg) (zo8:zdi P w K mg base c) (zo1:zdA P w K mg base c) (zpN:zc6 P w K mg base c):zc1 P w K mg base c:=by
  obtain⟨f,fd,F,hm⟩:=T.d_values_of;have S:FnScope ["words", "names", "form", "values", "kind", "place", "own"] ["words", "names"] (zf zgT):=⟨rfl,rfl,rfl,by decide +kernel,rfl,by decide +kernel,by decide +kernel⟩
  refine⟨fun ds Q Q' E E' hQ hE h=>?_,⟨f,fd,fn3 F S (fun ds Q E h=>?_) (fun cdv A outer s H E E3 hE hr=>?_),F.binds fun _ _ _ _ _ _ us hl=>by obtain⟨_,_,rfl⟩:=zF hl;rfl,F.kp,hm⟩⟩
  · walk_at "m"
  · walk_at "l"
  refine⟨_,(zc (zl (i:=2) S.nd rfl (by walk_at "o") (df3 hE zo8 (hr.mono (by decide)) rfl zg (za (n3 0) zb)))
    (zc (JS (df3 hE zo1 (hr.mono (by decide)) rfl zg (za (n3 0) (za (n3 2) zb))))
    (zc (zfe (i:=3) S.nd rfl (by walk_at "o") (ziW (n3 0) (Zk i3) Zj))
    (zc (zY PassesOwn.leaving rfl (zhj (g3d rfl T.m_KINDS)) (zr (i:=4) S.nd rfl (by walk_at "o")) (ze (zY PassesOwn.leaving rfl (zob rfl T.n_enumerate (za (n3 2) zb)) (J2 (n:=2) rfl (je (zr (i:=5) S.nd rfl (by walk_at "o")) (je (zr (i:=6) S.nd rfl (by walk_at "o")) Jl))) (ze (s_if (zj (zD hr.units) (n3 6) (n3 4) (nomark _)) (ze (zjz (i:=3) rfl (by walk_at "o") (n3 5) (df3 hE zpN (hr.mono (by decide)) rfl zg (za (n3 4) (za (at3 (n3 0) (op3 zu (n3 5) i3) (fun _ _=>rfl)) (za (n3 1) zb)))))) zk)))))
    (ze (zcW [3] (zn (n3 3)))))))),fun ds Q h=>?_⟩
  obtain⟨ws,ns,fm,vals,rfl,hz,hf,hl,hm,hm3,hv,hV,q⟩:=h
  walk_at "rd"
  refine⟨ws,rfl,hz,fm,hf,fun f=>⟨ws,rfl,fm,rfl,hl,hm,hm3,?_⟩⟩
  have hks:∀ (i:Nat) (k:Str),fm[i]?=some k→∃ w d,ws[i+1]?=some w∧vals[i]?=some d∧Val ns k w d:=fun i k hi=>by
    have h1:=(List.getElem?_eq_some_iff.mp hi).1;have h2:ws[i+1]?=some (ws[i+1]'(by omega)):=List.getElem?_eq_getElem _
    have h3:vals[i]?=some (vals[i]'(by omega)):=List.getElem?_eq_getElem _
    exact⟨_,_,h2,h3,hV i k _ _ hi h2 h3⟩
  have eK:[PyData.str (Str.ofString "number"),PyData.str (Str.ofString "ratio"),PyData.str (Str.ofString "new"),PyData.str (Str.ofString "name")]=(["number", "ratio", "new", "name"]:List Str).map PyData.str:=rfl;rw [eK];have eW:(ws.all (zx∘PyData.str))=true:=List.all_eq_true.mpr fun _ _=>rfl
  refine z7 PyData.str (["number", "ratio", "new", "name"]:List Str) (fun done ρ=>∃ vs t1 t2 t3,ρ = [some (.sh false (.list (ws.map .str))),some (.sh false (.list (ns.map .str))),some (.sh f (.tuple (fm.map .str))),some (.ow true vs),t1,t2,t3]∧vs.length=fm.length∧∀ (i:Nat) (k w:Str) (d:D),fm[i]?=some k→ws[i+1]?=some w→vals[i]?=some d→vs[i]?=some (if k∈done then d else .str w)) ?_ ?_ ⟨_,none,none,none,by rw [eW],?_,?_⟩
  · rintro done kd rest ρ hd ⟨vs,t1,t2,t3,rfl,hvl,hvs⟩ W hW
    walk_at "rd"
    have eE:Jo (fm.map PyData.str)=(List.range fm.length).map fun i=>.tuple [.int (i:Nat),(fm.map PyData.str).getD i .none]:=by unfold Jo;rw [List.length_map]
    rw [eE];refine z7 (fun i:Nat=>PyData.tuple [.int (i:Nat),(fm.map PyData.str).getD i .none]) (List.range fm.length) (fun di ρ=>∃ vs t2 t3,ρ = [some (.sh false (.list (ws.map .str))),some (.sh false (.list (ns.map .str))),some (.sh f (.tuple (fm.map .str))),some (.ow true vs),some (.sh true (.str kd)),t2,t3]∧vs.length=fm.length∧∀ (i:Nat) (k w:Str) (d:D),fm[i]?=some k→ws[i+1]?=some w→vals[i]?=some d→vs[i]?=some (if k∈done∨(k=kd∧i∈di) then d else .str w)) ?_ ?_ ⟨_,_,_,rfl,hvl,fun i k w d a1 a2 a3=>by rw [hvs i k w d a1 a2 a3];simp⟩
    · rintro di i rest' ρ hdi ⟨vs',t2',t3',rfl,hvl',hvs'⟩ W' hW'
      have hi:i<fm.length:=by
        have:i∈List.range fm.length:=by rw [hdi];simp
        exact List.mem_range.mp this
      have hni:i∉di:=fun z=>by
        have nd:=List.nodup_range (n:=fm.length);rw [hdi,List.nodup_append] at nd;exact nd.2.2 i z i List.mem_cons_self rfl
      have hk:fm[i]?=some fm[i]:=List.getElem?_eq_getElem hi;have hg:(fm.map PyData.str).getD i .none=.str fm[i]:=by rw [List.getD_eq_getElem?_getD,List.getElem?_map,hk];rfl
      obtain⟨w,d,b1,b2,b3⟩:=hks i fm[i] hk;rw [hg]
      walk_at "rd"
      by_cases e:fm[i]=kd
      · rw [if_pos e]
        refine⟨_,by rw [show((i:Int)+1)=((i+1:Nat):Int) by omega];exact Jb (j:=i+1) (by rw [List.getElem?_map,b1];rfl),?_⟩
        refine⟨w,rfl,ns,rfl,d,by rw [←e];exact b3,i,jD (by omega) (by rw [hvl'];omega),?_⟩
        refine hW' _ ⟨_,_,_,rfl,by rw [List.length_set];exact hvl',fun j k w' d' a1 a2 a3=>?_⟩
        by_cases hj:i=j
        · subst hj
          rw [List.getElem?_set_self (by rw [hvl'];exact hi)]
          rw [b2] at a3;cases a3;rw [hk] at a1;cases a1;rw [if_pos (.inr ⟨e,by simp⟩)]
        · rw [List.getElem?_set_ne hj,hvs' j k w' d' a1 a2 a3]
          congr 1
          refine zcm ?_
          simp [Ne.symm hj]
      · rw [if_neg e]
        refine hW' _ ⟨_,_,_,rfl,hvl',fun j k w d a1 a2 a3=>?_⟩
        rw [hvs' j k w d a1 a2 a3]
        congr 1
        refine zcm ?_
        constructor
        · rintro(z|⟨z1,z2⟩)
          · exact .inl z
          · exact .inr ⟨z1,List.mem_append_left _ z2⟩
        · rintro(z|⟨z1,z2⟩)
          · exact .inl z
          · rcases List.mem_append.mp z2 with z2|z2
            · exact .inr ⟨z1,z2⟩
            · rw [List.mem_singleton.mp z2,hk] at a1
              cases a1;exact absurd z1 e
    · rintro ρ ⟨vs',t2',t3',rfl,hvl',hvs'⟩
      refine hW _ ⟨_,_,_,_,rfl,hvl',fun i k w d a1 a2 a3=>?_⟩
      rw [hvs' i k w d a1 a2 a3];have hi:=(List.getElem?_eq_some_iff.mp a1).1
      congr 1
      refine zcm ?_
      simp [hi]
  · rintro ρ ⟨vs,t1,t2,t3,rfl,hvl,hvs⟩
    have e:vs=vals:=by
      refine List.ext_getElem? fun i=>?_
      by_cases hi:i<fm.length
      · obtain⟨w,d,b1,b2,b3⟩:=hks i fm[i] (List.getElem?_eq_getElem hi)
        rw [hvs i _ w d (List.getElem?_eq_getElem hi) b1 b2,b2,if_pos]
        rcases b3 with ⟨z,_⟩|⟨z,_⟩|⟨z,_⟩|⟨z,_⟩<;>rw [z]<;>simp
      · rw [List.getElem?_eq_none (by omega),List.getElem?_eq_none (by omega)]
    subst e
    walk_at "rd"
    exact q
  · cases ws with
    | nil=>cases hl
    | cons a r=>rw [List.map_cons,zgJ,List.length_map];rw [List.length_cons] at hl;omega
  · intro i k w d a1 a2 a3
    cases ws with
    | nil=>cases hl
    | cons a r=>
      rw [List.getElem?_cons_succ] at a2;rw [List.map_cons,zgJ,List.getElem?_map,a2,if_neg (by simp)];rfl
theorem zj8 (T:Txt c K mg) : zdy P w K mg base c:=by
  obtain⟨f,fd,F,hm⟩:=T.d_tell_clan;have S:FnScope ["desk", "values"] ["desk", "values"] (zf zdp):=⟨rfl,rfl,rfl,by decide +kernel,rfl,by decide +kernel,by decide +kernel⟩
  refine⟨fun o cs Q Q' hQ h=>?_,⟨f,fd,fnO F S (fun o cs Q h=>?_) (fun cdv A outer s H H0 E E3 hE hr=>?_),F.binds fun _ _ _ _ _ _ us hl=>by obtain⟨_,_,rfl⟩:=zF hl;rfl,F.kp,hm⟩⟩
  · walk_at "m"
  · obtain⟨_,_,_,_,rfl,_⟩:=h;rfl
  refine⟨_,(zc (s_if (zj zhU (at3 (n3 1) i3 (fun _ _=>rfl)) (zm (zH (i:=0) (j:=0) rfl (by walk_at "o") rfl T.cl_D T.na_names)) (by with_unfolding_all rfl)) (ze (zJ hE zI rfl rfl T.m_Known T.e_Known (za s3 zb))) zk)
    (zc (s_if (zj (zD hr.units) (zw zL rfl T.n_len zM (za (zm (zH (i:=0) (j:=0) rfl (by walk_at "o") rfl T.cl_D T.na_names)) zb)) (g3i rfl T.m_MOST_CLANS) (nomark _)) (ze (zJ hE zI rfl rfl T.m_TooMany T.e_TooMany (za s3 zb))) zk)
    (zc (Ji (zH (i:=0) (j:=0) rfl (by walk_at "o") rfl T.cl_D T.na_names) (at3 (n3 1) i3 (fun _ _=>rfl)))
    (zc (Ji (zH (i:=0) (j:=1) rfl (by walk_at "o") rfl T.cl_D T.na_weights) (at3 (n3 1) i3 (fun _ _=>rfl)))
    (zc (Ji (zH (i:=0) (j:=2) rfl (by walk_at "o") rfl T.cl_D T.na_bounds) (g3d rfl T.m_FIRST_BOUNDS))
    (zc (ZE (i:=0) (j:=3) rfl (by walk_at "o") rfl T.cl_D T.na_spells (new3 (jA ["turns", "weights"] [] [] rfl (jI (osc:=zf zdp) (by decide +kernel)) rfl (z9 (zm (zH (i:=0) (j:=3) rfl (by walk_at "o") rfl T.cl_D T.na_spells))) (fun H0 s H fp cl=>⟨(J2 (n:=2) rfl (je (zr (i:=0) (show((["turns", "weights"]:List PySem.Str)++([]:List PySem.Str)).Nodup by decide) rfl (by walk_at "o")) (je (zr (i:=1) (show((["turns", "weights"]:List PySem.Str)++([]:List PySem.Str)).Nodup by decide) rfl (by walk_at "o")) Jl))),Jm,(jq (za (n3 0) (za (new3 (cat3 (n3 1) (new3 (zE (za i3 zb))))) zb)))⟩))))
    (ze (zU (g3s rfl T.m_DONE))))))))),fun o cs Q h=>?_⟩
  obtain⟨S,x0,x1,⟨dx,a,l1,l2,l3,l5,rfl⟩,rfl,fw,h1,h2,h3,q⟩:=h
  walk_at "rd atI0 atI1"
  refine⟨S.names,jP _,?_⟩
  rw [if_neg (by rw [zcj];simp [h1]),if_neg (by rw [List.length_map];omega)]
  have lt:∀ n,n≤8→n<sizeLine:=fun n h=>Nat.lt_of_lt_of_le (show _<1000000 by omega) (by decide)
  refine⟨by rw [List.length_map];exact lt _ (by omega),by rw [List.length_map,fw.w];exact lt _ (by omega),by rw [List.length_map,fw.l];exact lt _ (by omega),by rw [List.length_map];exact sz (by have:=fw.s;omega),?_⟩
  refine zgi dS (fun s=>dS (s.1,s.2++[0])) (fun ρ=>∃ t u,ρ = [t,u]) _ (fun s hs ρ fa acc K hR hK=>?_) _ _ _ _ ⟨_,_,rfl⟩ fun fb=>?_
  · obtain⟨t,u,rfl⟩:=hR
    walk_at "rd"
    refine⟨by rw [List.length_map];exact sz (by have:=h3 s hs;omega),?_⟩
    have:=hK (fa&&s.snd.all (zx∘PyData.int)) _ ⟨some (Cl.sh true (PyData.int s.fst)),some (Cl.sh false (PyData.list (List.map PyData.int s.snd))),rfl⟩;unfold dS dI at this;simp only [List.map_append] at this;exact this
  · exact q _ rfl ⟨dx,a,l1,l2,l3,l5,by unfold jK St.clan dSs;simp;rfl⟩
theorem znY (T:Txt c K mg) : zcx P w K mg base c:=by
  obtain⟨f,fd,F,hm⟩:=T.d_tell_weight;have S:FnScope ["desk", "values"] ["desk", "values"] (zf zgX):=⟨rfl,rfl,rfl,by decide +kernel,rfl,by decide +kernel,by decide +kernel⟩
  refine⟨fun o cs Q Q' hQ h=>?_,⟨f,fd,fnO F S (fun o cs Q h=>?_) (fun cdv A outer s H H0 E E3 hE hr=>?_),F.binds fun _ _ _ _ _ _ us hl=>by obtain⟨_,_,rfl⟩:=zF hl;rfl,F.kp,hm⟩⟩
  · walk_at "m"
  · obtain⟨_,_,_,_,rfl,_⟩:=h;rfl
  refine⟨_,(zc (JV (zH (i:=0) (j:=1) rfl (by walk_at "o") rfl T.cl_D T.na_weights) (at3 (n3 1) i3 (fun _ _=>rfl)) (at3 (n3 1) i3 (fun _ _=>rfl)))
    (ze (zU (g3s rfl T.m_DONE)))),fun o cs Q h=>?_⟩
  obtain⟨S,x0,x1,⟨dx,a,l1,l2,l3,l5,rfl⟩,rfl,fw,h1,q⟩:=h
  walk_at "rd atI0 atI1"
  refine⟨x0,jD (by omega) (by rw [List.length_map,fw.w];omega),?_⟩
  exact q _ rfl ⟨dx,a,l1,l2,l3,l5,by simp [jK,St.clan,St.weight,St.merge,St.turns,St.bound,St.rule,St.free,St.setRow,St.clear,List.map_set,List.map_append,dRow,dSs]⟩
theorem zna (T:Txt c K mg) : zec P w K mg base c:=by
  obtain⟨f,fd,F,hm⟩:=T.d_tell_merge;have S:FnScope ["desk", "values"] ["desk", "values"] (zf zf0):=⟨rfl,rfl,rfl,by decide +kernel,rfl,by decide +kernel,by decide +kernel⟩
  refine⟨fun o cs Q Q' hQ h=>?_,⟨f,fd,fnO F S (fun o cs Q h=>?_) (fun cdv A outer s H H0 E E3 hE hr=>?_),F.binds fun _ _ _ _ _ _ us hl=>by obtain⟨_,_,rfl⟩:=zF hl;rfl,F.kp,hm⟩⟩
  · walk_at "m"
  · obtain⟨_,_,_,_,_,_,rfl,_⟩:=h;rfl
  refine⟨_,(zc (zkv (zH (i:=0) (j:=1) rfl (by walk_at "o") rfl T.cl_D T.na_weights) (at3 (n3 1) i3 (fun _ _=>rfl)) (at3 (zm (zH (i:=0) (j:=1) rfl (by walk_at "o") rfl T.cl_D T.na_weights)) (at3 (n3 1) i3 (fun _ _=>rfl)) (fun _ _=>rfl)))
    (zc (JV (zH (i:=0) (j:=1) rfl (by walk_at "o") rfl T.cl_D T.na_weights) (at3 (n3 1) i3 (fun _ _=>rfl)) i3)
    (ze (zU (g3s rfl T.m_DONE))))),fun o cs Q h=>?_⟩
  obtain⟨S,x0,x1,x2,x3,⟨dx,a,l1,l2,l3,l5,rfl⟩,rfl,fw,h1,h2,h3,q⟩:=h
  walk_at "rd atI0 atI1"
  have n1:=(List.getElem?_eq_some_iff.mp h1).1;have n2:=(List.getElem?_eq_some_iff.mp h2).1;refine⟨by omega,x2,by rw [Int.toNat_natCast,List.getElem?_map,h1];rfl,_,jb h2,?_⟩
  rw [Bool.or_true];refine⟨x1,jD (by omega) (by rw [List.length_set,List.length_map];omega),?_⟩
  rw [Int.toNat_natCast];exact q _ rfl ⟨dx,a,l1,l2,l3,l5,by unfold jK St.merge dSs;simp only [List.map_set]⟩
theorem zij (T:Txt c K mg) : zcT P w K mg base c:=by
  obtain⟨f,fd,F,hm⟩:=T.d_check_weights;have S:FnScope ["weights", "weight"] ["weights"] (zf zhn):=⟨rfl,rfl,rfl,by decide +kernel,rfl,by decide +kernel,by decide +kernel⟩
  refine⟨fun ds Q Q' E E' hQ hE h=>?_,⟨f,fd,fn3 F S (fun ds Q E h=>?_) (fun cdv A outer s H E E3 hE hr=>?_),F.binds fun _ _ _ _ _ _ us hl=>by obtain⟨_,rfl⟩:=zV hl;rfl,F.kp,hm⟩⟩
  · walk_at "m"
  · walk_at "l"
  refine⟨_,(zc (s_if (Jf (ZA j9 j9 i3 (zw zL rfl T.n_len zM (za (n3 0) zb)) (g3i rfl T.m_MOST_CLANS))) (ze (zJ hE zI rfl rfl T.m_NoSpell T.e_NoSpell (za s3 zb))) zk)
    (zc (zY PassesOwn.leaving rfl (z9 (n3 0)) (zr (i:=1) S.nd rfl (by walk_at "o")) (zc (s_if (zj jG (n3 1) i3 (nomark _)) (ze (zJ hE zI rfl rfl T.m_NoSpell T.e_NoSpell (za s3 zb))) zk)
      (ze (s_if (zj zhR (n3 1) (op3 zdk i3 i3) (nomark _)) (ze (zJ hE zI rfl rfl T.m_NoSpell T.e_NoSpell (za s3 zb))) zk))))
    (ze (s_if (zj (zD hr.units) (zw (zbP rfl) rfl T.n_sum zbW (za (n3 0) zb)) i3 (nomark _)) (ze (zJ hE zI rfl rfl T.m_NoSpell T.e_NoSpell (za s3 zb))) zk)))),fun ds Q h=>?_⟩
  obtain⟨ws,rfl,q,hE'⟩:=h
  walk_at "rd"
  simp only [List.length_map]
  by_cases h1:1≤(ws.length:Int)
  case neg=>rw [if_neg h1];exact hE' fun z=>h1 (by have:=z.1.1;omega)
  rw [if_pos h1]
  by_cases h2:(ws.length:Int)≤8
  case neg=>rw [if_pos h2];exact hE' fun z=>h2 (by have:=z.1.2;omega)
  rw [if_neg (fun z=>z h2)]
  refine zcA (fun ds ρ=>∃ rest t,ds=rest.map PyData.int∧ρ = [some (.sh false (.list (ws.map .int))),t]∧(∀ w∈rest,w∈ws)∧∀ w∈ws,w∈rest∨(0≤w∧w<10 ^ 30)) ?_ ?_ _ _ ⟨ws,none,rfl,rfl,fun _ h=>h,fun _ h=>.inl h⟩
  · rintro d ds ρ ⟨rest,t,e,rfl,hin,hall⟩ W hW
    cases rest with
    | nil=>cases e
    | cons w rest=>
      cases e;have hw:=hin w List.mem_cons_self
      walk_at "rd"
      by_cases h3:w<0
      · rw [if_pos h3];exact hE' fun z=>by have:=(z.2.1 w hw).1;omega
      rw [if_neg h3];refine⟨p30,?_⟩
      by_cases h4:(10:Int) ^ Int.toNat 30≤w
      · rw [if_pos h4];exact hE' fun z=>by have:=(z.2.1 w hw).2;exact absurd h4 (by have e:(10:Int) ^ Int.toNat 30=10 ^ 30:=rfl;omega)
      rw [if_neg h4];refine hW _ ⟨rest,_,rfl,rfl,fun x hx=>hin x (List.mem_cons_of_mem _ hx),fun x hx=>?_⟩
      rcases hall x hx with z|z
      · rcases List.mem_cons.mp z with rfl|z
        · exact .inr ⟨by omega,by have e:(10:Int) ^ Int.toNat 30=10 ^ 30:=rfl;omega⟩
        · exact .inl z
      · exact .inr z
  · rintro ρ ⟨rest,t,e,rfl,hin,hall⟩
    cases rest with
    | cons _ _=>cases e
    | nil=>
      walk_at "rd"
      refine⟨ws,JN ws,?_⟩
      by_cases h3:ws.sum=0
      · rw [if_pos h3];exact hE' fun z=>z.2.2 h3
      · rw [if_neg h3]
        exact q ⟨⟨by omega,by omega⟩,fun w hw=>(hall w hw).resolve_left (by simp),h3⟩
theorem ziG (T:Txt c K mg) : J4 P w K mg base c:=by
  obtain⟨f,fd,F,hm⟩:=T.d_all_turns;have S:FnScope ["spells"] ["spells"] (zf zdN):=⟨rfl,rfl,rfl,by decide +kernel,rfl,by decide +kernel,by decide +kernel⟩
  refine⟨fun ds Q Q' E E' hQ hE h=>?_,⟨f,fd,fn3 F S (fun ds Q E h=>?_) (fun cdv A outer s H E E3 hE hr=>?_),F.binds fun _ _ _ _ _ _ us hl=>by obtain⟨_,rfl⟩:=zV hl;rfl,F.kp,hm⟩⟩
  · walk_at "m"
  · walk_at "l"
  refine⟨_,(ze (zn (zw (zbP rfl) rfl T.n_sum zbW (za (new3 (jA ["spell"] [] [] rfl (jI (osc:=zf zdN) (by decide +kernel)) rfl (z9 (n3 0)) (fun H0 s H fp cl=>⟨(zr (i:=0) (show((["spell"]:List PySem.Str)++([]:List PySem.Str)).Nodup by decide) rfl (by walk_at "o")),Jm,(at3 (n3 0) i3 (fun _ _=>rfl))⟩))) zb)))),fun ds Q h=>?_⟩
  obtain⟨l,rfl,hz,q⟩:=h
  walk_at "rd"
  rw [List.length_map];refine⟨sz (by omega),?_⟩
  refine Jp (f:=false) dS (fun s=>.int s.1) (fun ρ=>∃ t,ρ = [t]) l ?_ _ _ _ _ ⟨none,rfl⟩ ?_
  · rintro s hs ρ fa acc K ⟨t,rfl⟩ k
    simp only [seq3,next3,set3,own3,ret3,ifS3,tt3,o3,u3,v3,atV,asS,asB,asD,optP,asT,asLd,asL,atO,J5,nilP,asId,asI,k3,nw3,add3,int3,int0,neg3,eq3,ne3,eqOk,eqv3,notN3,isNone,ix3,ixD,Je,nil3,za2,cb3,len3,lenD,abs3,max23,min23,sum3,all3,and3,or3,not3,zbs,za7,ch3,tup3,lst3,Z9,catN,slL3,no3,zaP,zaK,L2.isD,Z4,gn3,ZC,JG,gnil3,app3,put3,frzS,frz,frz1,for3,itL,itT,itS,rg1,rg2,JL,true3,cst3,zac,strI3,j7,shs,Cl.d,Cl.dat,Cl.f,zx,Option.map_some,Option.map_none,Option.isSome_some,Option.isSome_none,Option.join_some,Option.join_none,List.all_cons,List.all_nil,Bool.and_true,Bool.true_and,Bool.and_self,Bool.or_false,Bool.false_or,Bool.or_true,Bool.true_or,List.map_cons,List.map_nil,List.length_cons,List.length_nil,Nat.reduceAdd,Nat.reduceSub,Nat.sub_self,List.replicate,List.cons_append,List.nil_append,List.append_nil,List.getElem?_cons_zero,List.getElem?_cons_succ,List.set_cons_zero,List.set_cons_succ,Option.some.injEq,Cl.sh.injEq,PyData.int.injEq,PyData.bool.injEq,PyData.str.injEq,PyData.list.injEq,PyData.tuple.injEq,List.cons.injEq,reduceCtorEq,and_assoc,and_true,true_and,and_self,exists_eq_left,exists_eq_left',exists_eq',exists_eq_right,exists_eq_right',exists_and_left,exists_const,exists_false,false_and,and_false,or_false,false_or,or_true,true_or,decide_true,decide_false,decide_eq_true_eq,Bool.not_true,Bool.not_false,Bool.false_eq_true,Bool.true_eq_false,if_true,if_false,ite_true,ite_false,Bool.not_eq_true',decide_eq_false_iff_not,eq_self_iff_true,not_true_eq_false,not_false_eq_true,sz0,sz1,sz2,sz3,sz4,sz7,sz9,intS3,stS3,ptS3,slS3,fs3,atF,atB,flO,flT,fld3,ZU,zaA,zag,zbm,JY,JK,ftp3,zaO,zbn,Ob.put,Fl.c,Fl.d,isBg,Zq,zaf,Zf,okA,argC,argR,jH,zah,jX,Jr,atL,jB,zbg,Zy,zaN,zas,Z0,ifX3,J3,zam,za5,zaR,newM,newD,jr,spN,jn3,mulS3,inL3,zbf,Z6,intB3,itET,za6,zbq,zba,ans3,spRO,k3f,thF,nols,nol,Option.bind_some,Cl.fo.injEq,Ob.mk.injEq,Fl.ow.injEq,Fl.sh.injEq,Option.isSome,List.map,List.all_map,zaS,zav,zbj,zaL,za8,zaI,zao,zaF,zbb,zap,zbd,zaa,Z5,Zm,ZV,ZY,zay,zbt,ZX,zaM,zae,zaX,ZW,zax,za9,zaH,ZZ,zbc,zaG,zbp,ZN,Zd,ZM,za4,zbh,Z7,ZQ,zaE,zbi,Zg,zaC,zal,Ze,ZG,ZB,zak,Zc,J7,zar,zaz,zaZ,Z2,Zb,JU,Zh,J0,dI,dSs,dS,dQ,dP,dPs,dSt,dTt,jK,OK,dRD,jp,isBg,jt,modO,atI0]
    exact k _ ⟨_,rfl⟩
  · walk_at "rd"
    refine⟨l.map (fun s:Spell=>s.1),?_,q⟩
    rw [←JN (l.map (fun s:Spell=>s.1)),List.map_map]
    rfl
theorem zj6 (T:Txt c K mg) (zo5:zcT P w K mg base c) (zoY:J4 P w K mg base c):zdV P w K mg base c:=by
  obtain⟨f,fd,F,hm⟩:=T.d_check_spells;have S:FnScope ["spells", "turns", "weights"] ["spells"] (zf zfo):=⟨rfl,rfl,rfl,by decide +kernel,rfl,by decide +kernel,by decide +kernel⟩
  refine⟨fun ds Q Q' E E' hQ hE h=>?_,⟨f,fd,fn3 F S (fun ds Q E h=>?_) (fun cdv A outer s H E E3 hE hr=>?_),F.binds fun _ _ _ _ _ _ us hl=>by obtain⟨_,rfl⟩:=zV hl;rfl,F.kp,hm⟩⟩
  · walk_at "m"
  · walk_at "l"
  refine⟨_,(zc (s_if (Jf (ZA j9 j9 i3 (zw zL rfl T.n_len zM (za (n3 0) zb)) (g3i rfl T.m_MOST_SPELLS))) (ze (zJ hE zI rfl rfl T.m_NoSpell T.e_NoSpell (za s3 zb))) zk)
    (zc (zY PassesOwn.leaving rfl (z9 (n3 0)) (J2 (n:=2) rfl (je (zr (i:=1) S.nd rfl (by walk_at "o")) (je (zr (i:=2) S.nd rfl (by walk_at "o")) Jl))) (zc (s_if (zj jG (n3 1) i3 (nomark _)) (ze (zJ hE zI rfl rfl T.m_NoSpell T.e_NoSpell (za s3 zb))) zk)
      (zc (JS (df3 hE zo5 (hr.mono (by decide)) rfl zg (za (n3 2) zb)))
      (ze (s_if (zj (jR hr.units) (zw zL rfl T.n_len zM (za (n3 2) zb)) (zw zL rfl T.n_len zM (za (at3 (at3 (n3 0) i3 (fun _ _=>rfl)) i3 (fun _ _=>rfl)) zb)) (nomark _)) (ze (zJ hE zI rfl rfl T.m_NoSpell T.e_NoSpell (za s3 zb))) zk)))))
    (ze (s_if (zj J1 (df3 hE zoY (hr.mono (by decide)) rfl zg (za (n3 0) zb)) (g3i rfl T.m_MOST_TURNS) (nomark _)) (ze (zJ hE zI rfl rfl T.m_NoSpell T.e_NoSpell (za s3 zb))) zk)))),fun ds Q h=>?_⟩
  obtain⟨l,rfl,q,hE'⟩:=h
  walk_at "rd"
  simp only [List.length_map]
  by_cases h1:1≤(l.length:Int)
  case neg=>rw [if_neg h1];exact hE' fun z=>h1 (by have:=z.1.1;omega)
  rw [if_pos h1]
  by_cases h2:(l.length:Int)≤8
  case neg=>rw [if_pos h2];exact hE' fun z=>h2 (by have:=z.1.2;omega)
  rw [if_neg (fun z=>z h2)]
  have hd0:atI (l.map dS) 0=some (dS (l.headD (0,[]))):=by
    cases l with
    | nil=>simp at h1
    | cons a r=>exact atI0
  refine zcA (fun ds ρ=>∃ rest t u,ds=rest.map dS∧ρ = [some (.sh false (.list (l.map dS))),t,u]∧(∀ w∈rest,w∈l)∧∀ w∈l,w∈rest∨(1≤w.1∧okW w.2∧w.2.length=many l)) ?_ ?_ _ _ ⟨l,none,none,rfl,rfl,fun _ h=>h,fun _ h=>.inl h⟩
  · rintro d ds ρ ⟨rest,t,u,e,rfl,hin,hall⟩ W hW
    cases rest with
    | nil=>cases e
    | cons w rest=>
      cases e;have hw:=hin w List.mem_cons_self
      walk_at "rd"
      by_cases h3:w.1<1
      · rw [if_pos h3];exact hE' fun z=>by have:=(z.2.1 w hw).1;omega
      rw [if_neg h3];refine⟨w.2,rfl,fun hok=>?_,fun hno=>hE' fun z=>hno (z.2.1 w hw).2.1⟩
      simp only [seq3,next3,set3,own3,ret3,ifS3,tt3,o3,u3,v3,atV,asS,asB,asD,optP,asT,asLd,asL,atO,J5,nilP,asId,asI,k3,nw3,add3,int3,int0,neg3,eq3,ne3,eqOk,eqv3,notN3,isNone,ix3,ixD,Je,nil3,za2,cb3,len3,lenD,abs3,max23,min23,sum3,all3,and3,or3,not3,zbs,za7,ch3,tup3,lst3,Z9,catN,slL3,no3,zaP,zaK,L2.isD,Z4,gn3,ZC,JG,gnil3,app3,put3,frzS,frz,frz1,for3,itL,itT,itS,rg1,rg2,JL,true3,cst3,zac,strI3,j7,shs,Cl.d,Cl.dat,Cl.f,zx,Option.map_some,Option.map_none,Option.isSome_some,Option.isSome_none,Option.join_some,Option.join_none,List.all_cons,List.all_nil,Bool.and_true,Bool.true_and,Bool.and_self,Bool.or_false,Bool.false_or,Bool.or_true,Bool.true_or,List.map_cons,List.map_nil,List.length_cons,List.length_nil,Nat.reduceAdd,Nat.reduceSub,Nat.sub_self,List.replicate,List.cons_append,List.nil_append,List.append_nil,List.getElem?_cons_zero,List.getElem?_cons_succ,List.set_cons_zero,List.set_cons_succ,Option.some.injEq,Cl.sh.injEq,PyData.int.injEq,PyData.bool.injEq,PyData.str.injEq,PyData.list.injEq,PyData.tuple.injEq,List.cons.injEq,reduceCtorEq,and_assoc,and_true,true_and,and_self,exists_eq_left,exists_eq_left',exists_eq',exists_eq_right,exists_eq_right',exists_and_left,exists_const,exists_false,false_and,and_false,or_false,false_or,or_true,true_or,decide_true,decide_false,decide_eq_true_eq,Bool.not_true,Bool.not_false,Bool.false_eq_true,Bool.true_eq_false,if_true,if_false,ite_true,ite_false,Bool.not_eq_true',decide_eq_false_iff_not,eq_self_iff_true,not_true_eq_false,not_false_eq_true,sz0,sz1,sz2,sz3,sz4,sz7,sz9,intS3,stS3,ptS3,slS3,fs3,atF,atB,flO,flT,fld3,ZU,zaA,zag,zbm,JY,JK,ftp3,zaO,zbn,Ob.put,Fl.c,Fl.d,isBg,Zq,zaf,Zf,okA,argC,argR,jH,zah,jX,Jr,atL,jB,zbg,Zy,zaN,zas,Z0,ifX3,J3,zam,za5,zaR,newM,newD,jr,spN,jn3,mulS3,inL3,zbf,Z6,intB3,itET,za6,zbq,zba,ans3,spRO,k3f,thF,nols,nol,Option.bind_some,Cl.fo.injEq,Ob.mk.injEq,Fl.ow.injEq,Fl.sh.injEq,Option.isSome,List.map,List.all_map,zaS,zav,zbj,zaL,za8,zaI,zao,zaF,zbb,zap,zbd,zaa,Z5,Zm,ZV,ZY,zay,zbt,ZX,zaM,zae,zaX,ZW,zax,za9,zaH,ZZ,zbc,zaG,zbp,ZN,Zd,ZM,za4,zbh,Z7,ZQ,zaE,zbi,Zg,zaC,zal,Ze,ZG,ZB,zak,Zc,J7,zar,zaz,zaZ,Z2,Zb,JU,Zh,J0,dI,dSs,dS,dQ,dP,dPs,dSt,dTt,jK,OK,dRD,jp,isBg,jt,modO,atI0,atI1,hd0,List.length_map]
      by_cases h4:(w.2.length:Int)=(l.headD (0,[])).2.length
      · rw [if_neg (fun z=>z h4)]
        refine hW _ ⟨rest,_,_,rfl,rfl,fun x hx=>hin x (List.mem_cons_of_mem _ hx),fun x hx=>?_⟩
        rcases hall x hx with z|z
        · rcases List.mem_cons.mp z with rfl|z
          · exact .inr ⟨by omega,hok,by unfold many;omega⟩
          · exact .inl z
        · exact .inr z
      · rw [if_pos h4]
        exact hE' fun z=>h4 (by have:=(z.2.1 w hw).2.2;unfold many at this;omega)
  · rintro ρ ⟨rest,t,u,e,rfl,hin,hall⟩
    cases rest with
    | cons _ _=>cases e
    | nil=>
      walk_at "rd"
      refine⟨l,rfl,by omega,?_⟩
      by_cases h3:60<tot l
      · rw [if_pos h3];exact hE' fun z=>by have:=z.2.2;omega
      · rw [if_neg h3]
        exact q ⟨⟨by omega,by omega⟩,fun w hw=>(hall w hw).resolve_left (by simp),by omega⟩
theorem zoS (T:Txt c K mg) (zo3:zdV P w K mg base c):zcG P w K mg base c:=by
  obtain⟨f,fd,F,hm⟩:=T.d_tell_turns;have S:FnScope ["desk", "values", "spells"] ["desk", "values"] (zf zfz):=⟨rfl,rfl,rfl,by decide +kernel,rfl,by decide +kernel,by decide +kernel⟩
  refine⟨fun o cs Q Q' hQ h=>?_,⟨f,fd,fnO F S (fun o cs Q h=>?_) (fun cdv A outer s H H0 E E3 hE hr=>?_),F.binds fun _ _ _ _ _ _ us hl=>by obtain⟨_,_,rfl⟩:=zF hl;rfl,F.kp,hm⟩⟩
  · walk_at "m"
  · obtain⟨_,_,_,rfl,_⟩:=h;rfl
  refine⟨_,(zc (zl (i:=2) S.nd rfl (by walk_at "o") (new3 (cat3 (zm (zH (i:=0) (j:=3) rfl (by walk_at "o") rfl T.cl_D T.na_spells)) (new3 (zE (za (jq (za (at3 (n3 1) i3 (fun _ _=>rfl)) (za (new3 (zgK rfl T.n_list zev (za (zm (zH (i:=0) (j:=1) rfl (by walk_at "o") rfl T.cl_D T.na_weights)) zb))) zb))) zb))))))
    (zc (JS (df3 hE zo3 (hr.mono (by decide)) rfl zg (za (n3 2) zb)))
    (zc (ZE (i:=0) (j:=3) rfl (by walk_at "o") rfl T.cl_D T.na_spells (n3 2))
    (zc (ZE (i:=0) (j:=5) rfl (by walk_at "o") rfl T.cl_D T.na_row non3)
    (ze (zU (g3s rfl T.m_DONE))))))),fun o cs Q h=>?_⟩
  obtain⟨S,x0,⟨dx,a,l1,l2,l3,l5,rfl⟩,rfl,fw,h1,q⟩:=h
  walk_at "rd atI0 atI1"
  refine⟨by rw [List.length_map];exact sz (by have:=fw.s;omega),S.spells++[(x0,S.ws)],by rw [List.map_append];rfl,fun _=>?_,fun z=>absurd h1 z⟩
  exact q _ rfl ⟨dx,a,l1,l2,l3,l5,by unfold jK St.turns dSs dRow;simp only [List.map_append];rfl⟩
theorem znV (T:Txt c K mg) : zdX P w K mg base c:=by
  obtain⟨f,fd,F,hm⟩:=T.d_less;have S:FnScope ["one", "other"] ["one", "other"] (zf zhM):=⟨rfl,rfl,rfl,by decide +kernel,rfl,by decide +kernel,by decide +kernel⟩
  refine⟨fun ds Q Q' E E' hQ hE h=>?_,⟨f,fd,fn3 F S (fun ds Q E h=>?_) (fun cdv A outer s H E E3 hE hr=>?_),F.binds fun _ _ _ _ _ _ us hl=>by obtain⟨_,_,rfl⟩:=zF hl;rfl,F.kp,hm⟩⟩
  · walk_at "m"
  · walk_at "l"
  refine⟨_,(ze (zn (cmp3 jG (op3 jz (at3 (n3 0) i3 (fun _ _=>rfl)) (at3 (n3 1) i3 (fun _ _=>rfl))) (op3 jz (at3 (n3 1) i3 (fun _ _=>rfl)) (at3 (n3 0) i3 (fun _ _=>rfl))) (nomark _)))),fun ds Q h=>?_⟩
  obtain⟨a,b,rfl,ha,hb,q⟩:=h
  walk_at "rd atI0 atI1"
  exact⟨ha.2.1.mulOk hb.2.2 (by decide),hb.2.1.mulOk ha.2.2 (by decide),q⟩
theorem zks (T:Txt c K mg) (zpq:zdX P w K mg base c):zcM P w K mg base c:=by
  obtain⟨f,fd,F,hm⟩:=T.d_check_bounds;have S:FnScope ["bounds", "clans", "below", "above", "bound"] ["bounds", "clans"] (zf zgZ):=⟨rfl,rfl,rfl,by decide +kernel,rfl,by decide +kernel,by decide +kernel⟩
  refine⟨fun ds Q Q' E E' hQ hE h=>?_,⟨f,fd,fn3 F S (fun ds Q E h=>?_) (fun cdv A outer s H E E3 hE hr=>?_),F.binds fun _ _ _ _ _ _ us hl=>by obtain⟨_,_,rfl⟩:=zF hl;rfl,F.kp,hm⟩⟩
  · walk_at "m"
  · walk_at "l"
  refine⟨_,(zc (s_if (zj (jR hr.units) (zw zL rfl T.n_len zM (za (n3 0) zb)) (n3 1) (nomark _)) (ze (zJ hE zI rfl rfl T.m_NoBounds T.e_NoBounds (za s3 zb))) zk)
    (ze (zY PassesOwn.leaving rfl (z9 (n3 0)) (J2 (n:=2) rfl (je (zr (i:=2) S.nd rfl (by walk_at "o")) (je (zr (i:=3) S.nd rfl (by walk_at "o")) Jl))) (ze (zY PassesOwn.leaving rfl (zhj (jq (za (n3 2) (za (n3 3) zb)))) (zr (i:=4) S.nd rfl (by walk_at "o")) (ze (s_if (pw3 (zcJ (val3 (df3 hE zpq (hr.mono (by decide)) rfl zg (za (n3 4) (za (g3d rfl T.m_LEAST_BOUND) zb)))) (zdI (val3 (df3 hE zpq (hr.mono (by decide)) rfl zg (za (g3d rfl T.m_MOST_BOUND) (za (n3 4) zb))))))) (ze (zJ hE zI rfl rfl T.m_NoBounds T.e_NoBounds (za s3 zb))) zk))))))),fun ds Q h=>?_⟩
  obtain⟨l,n,rfl,hq,q,hE'⟩:=h
  walk_at "rd"
  rw [List.length_map]
  by_cases h1:(l.length:Int)=n
  case neg=>rw [if_pos h1];exact hE' fun z=>h1 (by rw [z.1])
  rw [if_neg (fun z=>z h1)]
  refine z7 dP l (fun done ρ=>∃ t u v,ρ = [some (.sh false (.list (l.map dP))),some (.sh true (.int n)),t,u,v]∧∀ p∈done,inQ p.1∧inQ p.2) ?_ ?_ ⟨none,none,none,rfl,fun x h=>by cases h⟩
  · rintro done x rest ρ hd ⟨t,u,v,rfl,hall⟩ W hW
    have hx:x∈l:=by rw [hd];simp
    obtain⟨hx1,hx2⟩:=hq x hx
    walk_at "rd"
    refine z7 dQ [x.1,x.2] (fun done' ρ=>∃ v,ρ = [some (.sh false (.list (l.map dP))),some (.sh true (.int n)),some (.sh false (dQ x.1)),some (.sh false (dQ x.2)),v]∧∀ r∈done',inQ r) ?_ ?_ ⟨_,rfl,fun x h=>by cases h⟩
    · rintro done' r rest' ρ hd' ⟨v,rfl,hall'⟩ W' hW'
      have hr:okQ r:=by
        have:r∈[x.1,x.2]:=by rw [hd'];simp
        rcases List.mem_cons.mp this with z|z
        · rw [z];exact hx1
        · rw [List.mem_singleton.mp z];exact hx2
      have hrb:inQ r∨¬okB n l:=by
        by_cases z:inQ r
        · exact .inl z
        · right
          intro y;have:r∈[x.1,x.2]:=by rw [hd'];simp
          rcases List.mem_cons.mp this with w|w
          · rw [w] at z;exact z (y.2 x hx).1
          · rw [List.mem_singleton.mp w] at z;exact z (y.2 x hx).2
      have o01:okQ (0,1):=⟨by decide,Bits.lit (x:=0) 1200,Bits.lit (x:=1) 1200⟩
      have o10:okQ (10,1):=⟨by decide,Bits.lit (x:=10) 1200,Bits.lit (x:=1) 1200⟩
      walk_at "rd"
      refine⟨r,rfl,rfl,(0,1),rfl,rfl,hr,o01,ite2 (fun h=>hE' (hrb.elim (fun z=>absurd h (by have:=z.1;show ¬r.1*1<0*r.2;omega)) id)) fun h=>⟨(10,1),rfl,rfl,r,rfl,rfl,o10,hr,ite2 (fun h2=>hE' (hrb.elim (fun z=>absurd h2 (by have:=z.2;show ¬10*r.2<r.1*1;omega)) id)) fun h2=>hW' _ ⟨_,rfl,fun y hy=>?_⟩⟩⟩
      rcases List.mem_append.mp hy with z|z
      · exact hall' y z
      · rw [List.mem_singleton.mp z]
        have e1:¬r.1*1<0*r.2:=h;have e2:¬10*r.2<r.1*1:=h2;exact⟨by omega,by omega⟩
    · rintro ρ ⟨v,rfl,hall'⟩
      exact hW _ ⟨_,_,_,rfl,fun p hp=>by
        rcases List.mem_append.mp hp with z|z
        · exact hall p z
        · rw [List.mem_singleton.mp z];exact⟨hall' _ (by simp),hall' _ (by simp)⟩⟩
  · rintro ρ ⟨t,u,v,rfl,hall⟩
    exact q ⟨by omega,hall⟩
theorem zoF (T:Txt c K mg) (zo0:zcM P w K mg base c):zem P w K mg base c:=by
  obtain⟨f,fd,F,hm⟩:=T.d_tell_bound;have S:FnScope ["desk", "values", "bounds"] ["desk", "values"] (zf zfg):=⟨rfl,rfl,rfl,by decide +kernel,rfl,by decide +kernel,by decide +kernel⟩
  refine⟨fun o cs Q Q' hQ h=>?_,⟨f,fd,fnO F S (fun o cs Q h=>?_) (fun cdv A outer s H H0 E E3 hE hr=>?_),F.binds fun _ _ _ _ _ _ us hl=>by obtain⟨_,_,rfl⟩:=zF hl;rfl,F.kp,hm⟩⟩
  · walk_at "m"
  · obtain⟨_,_,_,_,rfl,_⟩:=h;rfl
  refine⟨_,(zc (zl (i:=2) S.nd rfl (by walk_at "o") (jq (za (at3 (n3 1) i3 (fun _ _=>rfl)) (za (at3 (n3 1) i3 (fun _ _=>rfl)) zb))))
    (zc (JS (df3 hE zo0 (hr.mono (by decide)) rfl zg (za (new3 (zE (za (n3 2) zb))) (za i3 zb))))
    (zc (JV (zH (i:=0) (j:=2) rfl (by walk_at "o") rfl T.cl_D T.na_bounds) (at3 (n3 1) i3 (fun _ _=>rfl)) (n3 2))
    (ze (zU (g3s rfl T.m_DONE)))))),fun o cs Q h=>?_⟩
  obtain⟨S,x0,x1,⟨dx,a,l1,l2,l3,l5,rfl⟩,rfl,fw,h1,h2,h3,h4,q⟩:=h
  walk_at "rd atI0 atI1 at2'"
  refine⟨[x1],rfl,1,rfl,fun p hp=>by rw [List.mem_singleton.mp hp];exact⟨h2,h3⟩,fun _=>?_,fun z=>absurd h4 z⟩
  refine⟨x0,jD (by omega) (by rw [List.length_map,fw.l];omega),?_⟩
  exact q _ rfl ⟨dx,a,l1,l2,l3,l5,by unfold jK St.bound dSs;simp only [List.map_set];rfl⟩
theorem zmQ (T:Txt c K mg) : zb8 P w K mg base c:=by
  obtain⟨f,fd,F,hm⟩:=T.d_check_turn;have S:FnScope ["turn", "turns"] ["turn", "turns"] (zf zgW):=⟨rfl,rfl,rfl,by decide +kernel,rfl,by decide +kernel,by decide +kernel⟩
  refine⟨fun ds Q Q' E E' hQ hE h=>?_,⟨f,fd,fn3 F S (fun ds Q E h=>?_) (fun cdv A outer s H E E3 hE hr=>?_),F.binds fun _ _ _ _ _ _ us hl=>by obtain⟨_,_,rfl⟩:=zF hl;rfl,F.kp,hm⟩⟩
  · walk_at "m"
  · walk_at "l"
  refine⟨_,(ze (s_if (Jf (ZA j9 j9 i3 (n3 0) (n3 1))) (ze (zJ hE zI rfl rfl T.m_NoRule T.e_NoRule (za s3 zb))) zk)),fun ds Q h=>?_⟩
  obtain⟨t,T',rfl,q,hE'⟩:=h
  walk_at "rd"
  by_cases h1:1≤t
  · rw [if_pos h1]
    exact ite2 (fun z=>hE' fun y=>z y.2) fun z=>q ⟨h1,Decidable.not_not.mp z⟩
  · rw [if_neg h1]
    exact hE' fun y=>h1 y.1
theorem zlZ (T:Txt c K mg) (zo4:zb8 P w K mg base c) (zoY:J4 P w K mg base c):zb5 P w K mg base c:=by
  obtain⟨f,fd,F,hm⟩:=T.d_add_rule;have S:FnScope ["desk", "word", "turn", "clan"] ["desk", "word", "turn", "clan"] (zf zhp):=⟨rfl,rfl,rfl,by decide +kernel,rfl,by decide +kernel,by decide +kernel⟩
  refine⟨fun o cs Q Q' hQ h=>?_,⟨f,fd,fnO F S (fun o cs Q h=>?_) (fun cdv A outer s H H0 E E3 hE hr=>?_),F.binds fun _ _ _ _ _ _ us hl=>by obtain⟨_,_,_,_,rfl⟩:=zdf hl;rfl,F.kp,hm⟩⟩
  · walk_at "m"
  · obtain⟨_,_,_,_,_,rfl,_⟩:=h;rfl
  refine⟨_,(zc (JS (df3 hE zo4 (hr.mono (by decide)) rfl zg (za (n3 2) (za (df3 hE zoY (hr.mono (by decide)) rfl zg (za (zm (zH (i:=0) (j:=3) rfl (by walk_at "o") rfl T.cl_D T.na_spells)) zb)) zb))))
    (zc (Ji (zH (i:=0) (j:=4) rfl (by walk_at "o") rfl T.cl_D T.na_rules) (jq (za (n3 1) (za (n3 2) (za (n3 3) zb)))))
    (ze (zU (g3s rfl T.m_DONE))))),fun o cs Q h=>?_⟩
  obtain⟨S,b,t,i,⟨dx,a,l1,l2,l3,l5,rfl⟩,rfl,fw,h1,h2,q⟩:=h
  walk_at "rd"
  refine⟨S.spells,rfl,by have:=fw.s;omega,fun _=>⟨by rw [List.length_map];exact Nat.lt_of_lt_of_le (show _<1000000 by have:=fw.r;omega) (by decide),?_⟩,fun z=>absurd ⟨h1,h2⟩ z⟩
  exact q _ rfl ⟨dx,a,l1,l2,l3,l5,by unfold jK St.rule dSs;simp only [List.map_append];rfl⟩
theorem zlD (T:Txt c K mg) (zoX:zb5 P w K mg base c):zc5 P w K mg base c:=by
  obtain⟨f,fd,F,hm⟩:=T.d_tell_fix;have S:FnScope ["desk", "values"] ["desk", "values"] (zf zhe):=⟨rfl,rfl,rfl,by decide +kernel,rfl,by decide +kernel,by decide +kernel⟩
  refine⟨fun o cs Q Q' hQ h=>?_,⟨f,fd,fnO F S (fun o cs Q h=>?_) (fun cdv A outer s H H0 E E3 hE hr=>?_),F.binds fun _ _ _ _ _ _ us hl=>by obtain⟨_,_,rfl⟩:=zF hl;rfl,F.kp,hm⟩⟩
  · walk_at "m"
  · obtain⟨_,_,_,_,rfl,_⟩:=h;rfl
  refine⟨_,(ze (zhb (dfO (i:=0) zoX (hr.mono (by decide)) rfl zg rfl (by walk_at "o") (za (g3s rfl T.m_FIXED) (za (at3 (n3 1) i3 (fun _ _=>rfl)) (za (at3 (n3 1) i3 (fun _ _=>rfl)) zb)))))),fun o cs Q h=>?_⟩
  obtain⟨S,x0,x1,⟨dx,a,l1,l2,l3,l5,rfl⟩,rfl,fw,h1,h2,q⟩:=h
  walk_at "rd atI0 atI1"
  refine⟨S,⟨dx,a,l1,l2,l3,l5,rfl⟩,true,rfl,x1,rfl,fw,h1,h2,fun o' ea ho=>?_⟩
  exact⟨ea,q o' ea ho⟩
theorem zoq (T:Txt c K mg) (zoX:zb5 P w K mg base c):zdD P w K mg base c:=by
  obtain⟨f,fd,F,hm⟩:=T.d_tell_bar;have S:FnScope ["desk", "values"] ["desk", "values"] (zf zgl):=⟨rfl,rfl,rfl,by decide +kernel,rfl,by decide +kernel,by decide +kernel⟩
  refine⟨fun o cs Q Q' hQ h=>?_,⟨f,fd,fnO F S (fun o cs Q h=>?_) (fun cdv A outer s H H0 E E3 hE hr=>?_),F.binds fun _ _ _ _ _ _ us hl=>by obtain⟨_,_,rfl⟩:=zF hl;rfl,F.kp,hm⟩⟩
  · walk_at "m"
  · obtain⟨_,_,_,_,rfl,_⟩:=h;rfl
  refine⟨_,(ze (zhb (dfO (i:=0) zoX (hr.mono (by decide)) rfl zg rfl (by walk_at "o") (za (g3s rfl T.m_BARRED) (za (at3 (n3 1) i3 (fun _ _=>rfl)) (za (at3 (n3 1) i3 (fun _ _=>rfl)) zb)))))),fun o cs Q h=>?_⟩
  obtain⟨S,x0,x1,⟨dx,a,l1,l2,l3,l5,rfl⟩,rfl,fw,h1,h2,q⟩:=h
  walk_at "rd atI0 atI1"
  refine⟨S,⟨dx,a,l1,l2,l3,l5,rfl⟩,false,rfl,x1,rfl,fw,h1,h2,fun o' ea ho=>?_⟩
  exact⟨ea,q o' ea ho⟩
theorem zhY (T:Txt c K mg) (zo4:zb8 P w K mg base c) (zoY:J4 P w K mg base c):zd6 P w K mg base c:=by
  obtain⟨f,fd,F,hm⟩:=T.d_tell_free;have S:FnScope ["desk", "values"] ["desk", "values"] (zf zed):=⟨rfl,rfl,rfl,by decide +kernel,rfl,by decide +kernel,by decide +kernel⟩
  refine⟨fun o cs Q Q' hQ h=>?_,⟨f,fd,fnO F S (fun o cs Q h=>?_) (fun cdv A outer s H H0 E E3 hE hr=>?_),F.binds fun _ _ _ _ _ _ us hl=>by obtain⟨_,_,rfl⟩:=zF hl;rfl,F.kp,hm⟩⟩
  · walk_at "m"
  · obtain⟨_,_,_,rfl,_⟩:=h;rfl
  refine⟨_,(zc (JS (df3 hE zo4 (hr.mono (by decide)) rfl zg (za (at3 (n3 1) i3 (fun _ _=>rfl)) (za (df3 hE zoY (hr.mono (by decide)) rfl zg (za (zm (zH (i:=0) (j:=3) rfl (by walk_at "o") rfl T.cl_D T.na_spells)) zb)) zb))))
    (zc (zgu (i:=0) (j:=4) rfl (by walk_at "o") rfl T.cl_D T.na_rules (zfk 0 4 (jA ["rule"] ["values"] [1] rfl (jI (osc:=zf zed) (by decide +kernel)) rfl (z9 (zm (zH (i:=0) (j:=4) rfl (by walk_at "o") rfl T.cl_D T.na_rules))) (fun H0 s H fp cl=>⟨(zr (i:=0) (show((["rule"]:List PySem.Str)++(["values"]:List PySem.Str)).Nodup by decide) rfl (by walk_at "o")),(zbV (zj (jR hr.units) (at3 (n3 0) i3 (fun _ _=>rfl)) (at3 (n3 1) i3 (fun _ _=>rfl)) (nomark _))),(n3 0)⟩))))
    (ze (zU (g3s rfl T.m_DONE))))),fun o cs Q h=>?_⟩
  obtain⟨S,x0,⟨dx,a,l1,l2,l3,l5,rfl⟩,rfl,fw,h1,h2,q⟩:=h
  walk_at "rd atI0 atI1"
  refine⟨S.spells,rfl,by have:=fw.s;omega,fun _=>⟨by rw [List.length_map];exact sz (by have:=fw.r;omega),?_⟩,fun z=>absurd ⟨h1,h2⟩ z⟩
  refine zce dRD dRD (fun r=>decide (r.2.1≠x0)) (fun ρ=>∃ t,ρ = [t,some (.sh false (.list [.int x0]))]) _ (fun r _ ρ fa acc K hR hK=>?_) _ _ _ _ ⟨_,rfl⟩ fun fb=>?_
  · obtain⟨t,rfl⟩:=hR
    walk_at "rd atI0 atI1"
    by_cases e:r.2.1=x0
    · have:=hK fa [some (Cl.sh false (dRD r)),some (Cl.sh false (PyData.list [PyData.int x0]))] ⟨_,rfl⟩
      rw [if_neg (by simp [e])] at this
      rw [if_neg (fun z=>z e)];exact this
    · have:=hK (fa&&false) [some (Cl.sh false (dRD r)),some (Cl.sh false (PyData.list [PyData.int x0]))] ⟨_,rfl⟩
      rw [if_pos (by simp [e])] at this
      rw [if_pos e];exact this
  · refine⟨?_,fun l=>?_⟩
    · exact zcP _ ziX _
    · exact q _ rfl ⟨dx,a,l1,l2,l3,l,by unfold jK St.free dSs;simp⟩
theorem zm7 (T:Txt c K mg) : zdw P w K mg base c:=by
  obtain⟨f,fd,F,hm⟩:=T.d_check_row;have S:FnScope ["row", "turns", "clans", "clan"] ["row", "turns", "clans"] (zf zgY):=⟨rfl,rfl,rfl,by decide +kernel,rfl,by decide +kernel,by decide +kernel⟩
  refine⟨fun ds Q Q' E E' hQ hE h=>?_,⟨f,fd,fn3 F S (fun ds Q E h=>?_) (fun cdv A outer s H E E3 hE hr=>?_),F.binds fun _ _ _ _ _ _ us hl=>by obtain⟨_,_,_,rfl⟩:=J6 hl;rfl,F.kp,hm⟩⟩
  · walk_at "m"
  · obtain⟨_,_,_,rfl,_⟩:=h;rfl
  refine⟨_,(zc (s_if (zj (jR hr.units) (zw zL rfl T.n_len zM (za (n3 0) zb)) (n3 1) (nomark _)) (ze (zJ hE zI rfl rfl T.m_NoRow T.e_NoRow (za s3 zb))) zk)
    (ze (zY PassesOwn.leaving rfl (z9 (n3 0)) (zr (i:=3) S.nd rfl (by walk_at "o")) (ze (s_if (Jf (ZA j9 jG i3 (n3 3) (n3 2))) (ze (zJ hE zI rfl rfl T.m_NoRow T.e_NoRow (za s3 zb))) zk))))),fun ds Q h=>?_⟩
  obtain⟨row,T',n,rfl,q,hE'⟩:=h
  walk_at "rd"
  rw [List.length_map]
  by_cases h1:(row.length:Int)=T'
  case neg=>rw [if_pos h1];exact hE' fun z=>h1 (by rw [z.1])
  rw [if_neg (fun z=>z h1)]
  refine z7 PyData.int row (fun done ρ=>∃ t,ρ = [some (.sh false (.list (row.map .int))),some (.sh true (.int T')),some (.sh true (.int n)),t]∧∀ x∈done,0≤x∧x<(n:Int)) ?_ ?_ ⟨none,rfl,fun x h=>by cases h⟩
  · rintro done x rest ρ hd ⟨t,rfl,hall⟩ W hW
    have hx:x∈row:=by rw [hd];simp
    walk_at "rd"
    by_cases h2:0≤x
    case neg=>rw [if_neg h2];exact hE' fun z=>h2 (z.2 x hx).1
    rw [if_pos h2]
    by_cases h3:x<(n:Int)
    case neg=>rw [if_pos h3];exact hE' fun z=>h3 (z.2 x hx).2
    rw [if_neg (fun z=>z h3)]
    exact hW _ ⟨_,rfl,fun y hy=>by
      rcases List.mem_append.mp hy with z|z
      · exact hall y z
      · rw [List.mem_singleton.mp z];exact⟨h2,h3⟩⟩
  · rintro ρ ⟨t,rfl,hall⟩
    exact q ⟨by omega,hall⟩
theorem zi4 (T:Txt c K mg) (zo2:zdw P w K mg base c) (zoY:J4 P w K mg base c):zcq P w K mg base c:=by
  obtain⟨f,fd,F,hm⟩:=T.d_tell_row;have S:FnScope ["desk", "values"] ["desk", "values"] (zf zfP):=⟨rfl,rfl,rfl,by decide +kernel,rfl,by decide +kernel,by decide +kernel⟩
  refine⟨fun o cs Q Q' hQ h=>?_,⟨f,fd,fnO F S (fun o cs Q h=>?_) (fun cdv A outer s H H0 E E3 hE hr=>?_),F.binds fun _ _ _ _ _ _ us hl=>by obtain⟨_,_,rfl⟩:=zF hl;rfl,F.kp,hm⟩⟩
  · walk_at "m"
  · obtain⟨_,_,_,rfl,_⟩:=h;rfl
  refine⟨_,(zc (JS (df3 hE zo2 (hr.mono (by decide)) rfl zg (za (n3 1) (za (df3 hE zoY (hr.mono (by decide)) rfl zg (za (zm (zH (i:=0) (j:=3) rfl (by walk_at "o") rfl T.cl_D T.na_spells)) zb)) (za (zw zL rfl T.n_len zM (za (zm (zH (i:=0) (j:=0) rfl (by walk_at "o") rfl T.cl_D T.na_names)) zb)) zb)))))
    (zc (ZE (i:=0) (j:=5) rfl (by walk_at "o") rfl T.cl_D T.na_row (n3 1))
    (ze (zU (g3s rfl T.m_DONE))))),fun o cs Q h=>?_⟩
  obtain⟨S,l,⟨dx,a,l1,l2,l3,l5,rfl⟩,rfl,fw,h1,h2,q⟩:=h
  walk_at "rd"
  refine⟨S.spells,rfl,by have:=fw.s;omega,l.map fun(c:Nat)=>(c:Int),by unfold dN;rw [List.map_map];rfl,l.length,h1.symm,S.names.length,by rw [List.length_map],fun _=>?_,fun z=>?_⟩
  · exact q _ rfl ⟨dx,a,l1,l2,l3,l5,rfl⟩
  · refine absurd ⟨List.length_map _,fun c hc=>?_⟩ z
    obtain⟨c',hc',rfl⟩:=List.mem_map.mp hc;have:=h2 c' hc'
    omega
theorem znA (T:Txt c K mg) : zc0 P w K mg base c:=by
  obtain⟨f,fd,F,hm⟩:=T.d_tell_clear;have S:FnScope ["desk", "values"] ["desk", "values"] (zf zfM):=⟨rfl,rfl,rfl,by decide +kernel,rfl,by decide +kernel,by decide +kernel⟩
  refine⟨fun o cs Q Q' hQ h=>?_,⟨f,fd,fnO F S (fun o cs Q h=>?_) (fun cdv A outer s H H0 E E3 hE hr=>?_),F.binds fun _ _ _ _ _ _ us hl=>by obtain⟨_,_,rfl⟩:=zF hl;rfl,F.kp,hm⟩⟩
  · walk_at "m"
  · obtain⟨_,_,rfl,_⟩:=h;rfl
  refine⟨_,(zc (ZE (i:=0) (j:=3) rfl (by walk_at "o") rfl T.cl_D T.na_spells (new3 (zE zb)))
    (zc (zgu (i:=0) (j:=4) rfl (by walk_at "o") rfl T.cl_D T.na_rules (zE zb))
    (zc (ZE (i:=0) (j:=5) rfl (by walk_at "o") rfl T.cl_D T.na_row non3)
    (ze (zU (g3s rfl T.m_DONE)))))),fun o cs Q h=>?_⟩
  obtain⟨S,⟨dx,a,l1,l2,l3,l5,rfl⟩,rfl,fw,q⟩:=h
  walk_at "rd"
  exact fun l=>q _ rfl ⟨dx,a,l1,l2,l3,l,rfl⟩
theorem zlo (T:Txt c K mg) (zpz:zbN P w K mg base c):zdM P w K mg base c:=by
  obtain⟨f,fd,F,hm⟩:=T.d_shown_clan;have S:FnScope ["desk", "clan", "bounds"] ["desk", "clan"] (zf zfW):=⟨rfl,rfl,rfl,by decide +kernel,rfl,by decide +kernel,by decide +kernel⟩
  refine⟨fun cs Q Q' hQ h=>?_,⟨f,fd,fnR F S (fun cs Q h=>?_) (fun cdv A outer s H E E3 hE hr=>?_),F.binds fun _ _ _ _ _ _ us hl=>by obtain⟨_,_,rfl⟩:=zF hl;rfl,F.kp,hm⟩⟩
  · walk_at "m"
  · walk_at "l"
  refine⟨_,(zc (zl (i:=2) S.nd rfl (by walk_at "o") (at3 (zm (zH (i:=0) (j:=2) rfl (by walk_at "o") rfl T.cl_D T.na_bounds)) (n3 1) (fun _ _=>rfl)))
    (ze (zn (j6 s3 (new3 (zE (za (at3 (zm (zH (i:=0) (j:=0) rfl (by walk_at "o") rfl T.cl_D T.na_names)) (n3 1) (fun _ _=>rfl)) (za (zZ ji rfl T.n_str jg (za (at3 (zm (zH (i:=0) (j:=1) rfl (by walk_at "o") rfl T.cl_D T.na_weights)) (n3 1) (fun _ _=>rfl)) zb)) (za (df3 hE zpz (hr.mono (by decide)) rfl zg (za (at3 (n3 2) i3 (fun _ _=>rfl)) zb)) (za (df3 hE zpz (hr.mono (by decide)) rfl zg (za (at3 (n3 2) i3 (fun _ _=>rfl)) zb)) zb)))))))))),fun cs Q h=>?_⟩
  obtain⟨S,dx,i,rfl,g,hi,q⟩:=h
  walk_at "rd"
  have w1:=zbQ g hi;have l1:=zgw g hi;have n0:=JF g hi;obtain⟨_,hw⟩:=g.wb _ (List.mem_of_getElem? w1);obtain⟨_,_,_,_,b1,b2,b3,b4⟩:=g.lb _ (List.mem_of_getElem? l1);refine⟨_,jb l1,_,jb (jQ hi),_,jb w1,?_⟩
  walk_at "rd atI0 atI1"
  have n1:=ZS hw;have n2:=Zz b1 b2;have n3:=Zz b3 b4;rw [jc];refine⟨Nat.lt_of_lt_of_le (hw.log2 (by decide)) (by decide),b1.mono (by decide),b2.mono (by decide),b3.mono (by decide),b4.mono (by decide),by decide,?_,q⟩
  simp only [List.sum_cons,List.sum_nil]
  omega
theorem zkQ (T:Txt c K mg) : zei P w K mg base c:=by
  obtain⟨f,fd,F,hm⟩:=T.d_shown_rule;have S:FnScope ["desk", "rule"] ["desk", "rule"] (zf zfR):=⟨rfl,rfl,rfl,by decide +kernel,rfl,by decide +kernel,by decide +kernel⟩
  refine⟨fun cs Q Q' hQ h=>?_,⟨f,fd,fnR F S (fun cs Q h=>?_) (fun cdv A outer s H E E3 hE hr=>?_),F.binds fun _ _ _ _ _ _ us hl=>by obtain⟨_,_,rfl⟩:=zF hl;rfl,F.kp,hm⟩⟩
  · walk_at "m"
  · walk_at "l"
  refine⟨_,(ze (zn (j6 s3 (new3 (zE (za (zfD rfl T.m_WORDS_OF_RULES (at3 (n3 1) i3 (fun _ _=>rfl))) (za (zZ ji rfl T.n_str jg (za (at3 (n3 1) i3 (fun _ _=>rfl)) zb)) (za (at3 (zm (zH (i:=0) (j:=0) rfl (by walk_at "o") rfl T.cl_D T.na_names)) (at3 (n3 1) i3 (fun _ _=>rfl)) (fun _ _=>rfl)) zb)))))))),fun cs Q h=>?_⟩
  obtain⟨S,dx,r,rfl,g,hb,hi,q⟩:=h
  walk_at "rd atI0 atI1 at2'"
  rw [zmr];have n0:=JF g hi;have n1:=JO hb;have n2:=zdo r.1;rw [jc];refine⟨Nat.lt_of_lt_of_le (hb.log2 (by decide)) (by decide),_,jb (jQ hi),[fixT r.1,st (tl r.2.1),zv S r.2.2],rfl,by decide,?_,q⟩
  simp only [List.map_cons,List.map_nil,List.sum_cons,List.sum_nil,List.length_cons,List.length_nil]
  omega
theorem zlv (T:Txt c K mg) : zcQ P w K mg base c:=by
  obtain⟨f,fd,F,hm⟩:=T.d_numbers_in;have S:FnScope ["numbers"] ["numbers"] (zf zcN):=⟨rfl,rfl,rfl,by decide +kernel,rfl,by decide +kernel,by decide +kernel⟩
  refine⟨fun ds Q Q' E E' hQ hE h=>?_,⟨f,fd,fn3 F S (fun ds Q E h=>?_) (fun cdv A outer s H E E3 hE hr=>?_),F.binds fun _ _ _ _ _ _ us hl=>by obtain⟨_,rfl⟩:=zV hl;rfl,F.kp,hm⟩⟩
  · walk_at "m"
  · walk_at "l"
  refine⟨_,(ze (zn (j6 s3 (new3 (jA ["number"] [] [] rfl (jI (osc:=zf zcN) (by decide +kernel)) rfl (z9 (n3 0)) (fun H0 s H fp cl=>⟨(zr (i:=0) (show((["number"]:List PySem.Str)++([]:List PySem.Str)).Nodup by decide) rfl (by walk_at "o")),Jm,(zZ ji rfl T.n_str jg (za (n3 0) zb))⟩)))))),fun ds Q h=>?_⟩
  obtain⟨ns,rfl,hl,hb,q⟩:=h
  walk_at "rd"
  refine⟨by rw [List.length_map];exact sz (by omega),?_⟩
  refine Jp (fun n:Int=>PyData.int n) (fun n=>PyData.str (st (tl n))) (fun ρ=>∃ t,ρ = [t]) _ (fun n hn ρ fa acc K hR hK=>?_) _ _ _ _ ⟨_,rfl⟩ ?_
  · obtain⟨t,rfl⟩:=hR
    walk_at "rd"
    have hB:=hb n hn;rw [jc];exact⟨Nat.lt_of_lt_of_le (hB.log2 (by decide)) (by decide),hK _ ⟨_,rfl⟩⟩
  · refine⟨ns.map fun n=>st (tl n),?_,by decide,?_,q⟩
    · rw [List.nil_append]
      have:(ns.map fun n=>PyData.str (st (tl n)))=(ns.map fun n=>st (tl n)).map PyData.str:=by rw [List.map_map];rfl
      rw [this];exact jP _
    · rw [List.length_map]
      have:=JI (l:=(ns.map fun n=>st (tl n)).map fun x=>x.length) (k:=62) (by
        intro y hy;rw [List.map_map] at hy;obtain⟨n,hn,rfl⟩:=List.mem_map.mp hy;show(st (tl n)).length≤62;rw [zp];exact Ja (k:=61) (by decide) (Nat.lt_of_lt_of_le (hb n hn) (by decide +kernel)))
      simp only [List.length_map] at this
      omega
theorem zmd (T:Txt c K mg) : zdB P w K mg base c:=by
  obtain⟨f,fd,F,hm⟩:=T.d_names_of;have S:FnScope ["desk", "row"] ["desk", "row"] (zf zdd):=⟨rfl,rfl,rfl,by decide +kernel,rfl,by decide +kernel,by decide +kernel⟩
  refine⟨fun cs Q Q' hQ h=>?_,⟨f,fd,fnR F S (fun cs Q h=>?_) (fun cdv A outer s H E E3 hE hr=>?_),F.binds fun _ _ _ _ _ _ us hl=>by obtain⟨_,_,rfl⟩:=zF hl;rfl,F.kp,hm⟩⟩
  · walk_at "m"
  · walk_at "l"
  refine⟨_,(ze (zn (j6 s3 (new3 (jA ["clan"] ["desk"] [0] rfl (jI (osc:=zf zdd) (by decide +kernel)) rfl (z9 (n3 1)) (fun H0 s H fp cl=>⟨(zr (i:=0) (show((["clan"]:List PySem.Str)++(["desk"]:List PySem.Str)).Nodup by decide) rfl (by walk_at "o")),Jm,(at3 (zm (zH (i:=1) (j:=0) rfl (by walk_at "o") rfl T.cl_D T.na_names)) (n3 0) (fun _ _=>rfl))⟩)))))),fun cs Q h=>?_⟩
  obtain⟨S,dx,l,rfl,g,hl,hc,q⟩:=h
  walk_at "rd dN"
  refine⟨by rw [List.length_map];exact sz (by omega),?_⟩
  refine Jp (fun n:Nat=>PyData.int n) (fun n=>PyData.str (zv S n)) (fun ρ=>∃ t,ρ = [t,some (Cl.fo (some dx) (jp S))]) _ (fun n hn ρ fa acc K hR hK=>?_) _ _ _ _ ⟨_,rfl⟩ ?_
  · obtain⟨t,rfl⟩:=hR
    walk_at "rd"
    refine⟨_,jb (jQ (hc n hn)),?_⟩
    walk_at "rd"
    exact hK _ ⟨_,rfl⟩
  · obtain⟨h1,h2⟩:=zaq g hl hc
    refine⟨l.map (zv S),?_,by decide,?_,q⟩
    · rw [List.nil_append]
      have:(l.map fun n=>PyData.str (zv S n))=(l.map (zv S)).map PyData.str:=by rw [List.map_map];rfl
      rw [this];exact jP _
    · rw [List.length_map];omega
theorem zjG (T:Txt c K mg) (zpA:zdM P w K mg base c) (zpB:zei P w K mg base c) (zpv:zcQ P w K mg base c) (zpr:zdB P w K mg base c):zc3 P w K mg base c:=by
  obtain⟨f,fd,F,hm⟩:=T.d_answer_show;have S:FnScope ["desk", "values", "parts", "turns", "weights", "rule"] ["desk", "values"] (zf zcY):=⟨rfl,rfl,rfl,by decide +kernel,rfl,by decide +kernel,by decide +kernel⟩
  refine⟨fun cs Q Q' hQ h=>?_,⟨f,fd,fnR F S (fun cs Q h=>?_) (fun cdv A outer s H E E3 hE hr=>?_),F.binds fun _ _ _ _ _ _ us hl=>by obtain⟨_,_,rfl⟩:=zF hl;rfl,F.kp,hm⟩⟩
  · walk_at "m"
  · walk_at "l"
  refine⟨_,(zc (zoK (i:=2) S.nd rfl (by walk_at "o") ["clan"] ["desk"] [0] rfl (jI (osc:=zf zcY) (by decide +kernel)) rfl (JC rfl T.n_range (za (zw zL rfl T.n_len zM (za (zm (zH (i:=0) (j:=0) rfl (by walk_at "o") rfl T.cl_D T.na_names)) zb)) zb)) (fun H0 s H fp cl=>⟨(zr (i:=0) (show((["clan"]:List PySem.Str)++(["desk"]:List PySem.Str)).Nodup by decide) rfl (by walk_at "o")),Jm,(dfR (E:=fun _ _ _=>False) zpA (hr.mono (by decide)) rfl znM (za (n3 1) (za (n3 0) zb)))⟩))
    (zc (zY PassesOwn.leaving rfl (z9 (zm (zH (i:=0) (j:=3) rfl (by walk_at "o") rfl T.cl_D T.na_spells))) (J2 (n:=2) rfl (je (zr (i:=3) S.nd rfl (by walk_at "o")) (je (zr (i:=4) S.nd rfl (by walk_at "o")) Jl))) (ze (JQ (i:=2) rfl (by walk_at "o") (op3 zu s3 (df3 hE zpv (hr.mono (by decide)) rfl zg (za (new3 (cat3 (new3 (zE (za (n3 3) zb))) (n3 4))) zb))))))
    (zc (zY PassesOwn.leaving rfl (z9 (zm (zH (i:=0) (j:=4) rfl (by walk_at "o") rfl T.cl_D T.na_rules))) (zr (i:=5) S.nd rfl (by walk_at "o")) (ze (JQ (i:=2) rfl (by walk_at "o") (dfR zpB (hr.mono (by decide)) rfl zg (za (n3 0) (za (n3 5) zb))))))
    (zc (s_if (zj zfK (zm (zH (i:=0) (j:=5) rfl (by walk_at "o") rfl T.cl_D T.na_row)) non3 (nomark _)) (ze (JQ (i:=2) rfl (by walk_at "o") (op3 zu s3 (dfR zpr (hr.mono (by decide)) rfl zg (za (n3 0) (za (zm (zH (i:=0) (j:=5) rfl (by walk_at "o") rfl T.cl_D T.na_row)) zb)))))) zk)
    (zc (s_if (zj (zD hr.units) (zw zL rfl T.n_len zM (za (n3 2) zb)) i3 (nomark _)) (ze (zn s3)) zk)
    (ze (zcW [2] (zn (j6 s3 (n3 2)))))))))),fun cs Q h=>?_⟩
  obtain⟨S,dx,f,d,rfl,g,q⟩:=h;have hn:=g.n;have hs:=g.s;have hr:=g.r
  walk_at "rd"
  rw [List.length_map,Int.toNat_natCast];have eN:nums 0 S.names.length=(List.range S.names.length).map fun(k:Nat)=>PyData.int k:=by unfold nums;simp
  rw [eN];refine⟨by omega,by omega,by rw [List.length_map,List.length_range];exact sz (by omega),?_⟩
  refine Jp (fun n:Nat=>PyData.int n) (fun n=>PyData.str (jj S n)) (fun ρ=>∃ t,ρ = [t,some (Cl.fo (some dx) (jp S))]) _ (fun n hn ρ fa acc K hR hK=>?_) _ _ _ _ ⟨_,rfl⟩ ?_
  · obtain⟨t,rfl⟩:=hR
    walk_at "rd"
    exact⟨S,rfl,rfl,rfl,rfl,rfl,rfl,n,rfl,g,List.mem_range.mp hn,hK _ ⟨_,rfl⟩⟩
  · rw [List.nil_append]
    refine z7 dS S.spells (fun done ρ=>∃ b t3 t4,ρ = [some (Cl.fo (some dx) (jp S)),some (.sh f d),some (.ow b (((List.range S.names.length).map (jj S)++done.map jo).map PyData.str)),t3,t4,none]) ?_ ?_ ⟨_,_,_,by rw [List.map_nil,List.append_nil,List.map_map];rfl⟩
    · rintro done s rest ρ hd ⟨b,t3,t4,rfl⟩ W hW
      walk_at "rd"
      have hm:s∈S.spells:=by rw [hd];simp
      have hdl:done.length≤8:=by rw [hd,List.length_append] at hs;omega
      obtain⟨h1,h2,h3⟩:=g.sb s hm;have hz:=zdl g hm;refine⟨by rw [List.length_map];exact sz (by omega),s.1::s.2,rfl,by rw [List.length_cons];omega,fun n hn=>?_,?_,?_,hW _ ⟨b,some (Cl.sh true (PyData.int s.fst)),some (Cl.sh false (PyData.list (List.map PyData.int s.snd))),?_⟩⟩
      · rcases List.mem_cons.mp hn with rfl|hn
        · exact h2.mono (by decide)
        · exact(h3 n hn).mono (by decide)
      · exact sz (by have:(Str.ofString "turns ").length=6:=(by decide);omega)
      · rw [List.length_map,List.length_append,List.length_map,List.length_map,List.length_range]
        exact Nat.lt_of_lt_of_le (show _<1000000 by omega) (by decide)
      · simp only [List.map_append,List.append_assoc,jp,dSt,dI,dPs,dSs];rfl
    · rintro ρ ⟨b,t3,t4,rfl⟩
      walk_at "rd"
      refine z7 dRD S.rules (fun done ρ=>∃ b t3 t4 t5,ρ = [some (Cl.fo (some dx) (jp S)),some (.sh f d),some (.ow b (((List.range S.names.length).map (jj S)++S.spells.map jo++done.map (j5 S)).map PyData.str)),t3,t4,t5]) ?_ ?_ ⟨b,_,_,_,by rw [List.map_nil,List.append_nil];rfl⟩
      · rintro done r rest ρ hd ⟨b,t3,t4,t5,rfl⟩ W hW
        have hm:r∈S.rules:=by rw [hd];simp
        have hdl:done.length≤100:=by rw [hd,List.length_append] at hr;omega
        obtain⟨h1,h2⟩:=g.rb r hm
        walk_at "rd"
        refine⟨S,rfl,rfl,rfl,rfl,rfl,rfl,r,rfl,rfl,rfl,g,h1,h2,?_,hW _ ⟨b,t3,t4,some (Cl.sh false (dRD r)),?_⟩⟩
        · simp only [List.length_map,List.length_append,List.length_range]
          exact Nat.lt_of_lt_of_le (show _<1000000 by omega) (by decide)
        · simp only [List.map_append,List.append_assoc,jp,dSt,dI,dPs,dSs];rfl
      · rintro ρ ⟨b,t3,t4,t5,rfl⟩
        have hlt:((List.range S.names.length).map (jj S)++S.spells.map jo++S.rules.map (j5 S)).length<sizeLine:=by
          simp only [List.length_map,List.length_append,List.length_range];exact Nat.lt_of_lt_of_le (show _<1000000 by omega) (by decide)
        cases hrow:S.row with
        | none=>
          walk_at "rd hrow dRow"
          exact zbH g (by unfold jv rowT;rw [hrow,List.append_nil]) q
        | some l=>
          obtain⟨o1,o2⟩:=g.ob l hrow;have nl:=(zaq g o1 o2).2
          walk_at "rd hrow dRow"
          rw [if_pos (by rfl)]
          refine⟨S,rfl,rfl,rfl,rfl,rfl,by rw [hrow],rfl,l,rfl,g,o1,o2,sz (by have:(Str.ofString "row ").length=4:=(by decide);omega),by rw [List.length_map];exact hlt,?_⟩
          have fin:=zbH g (X:=(List.range S.names.length).map (jj S)++S.spells.map jo++S.rules.map (j5 S)++["row " ++ Zv S l]) (by unfold jv rowT;rw [hrow]) q
          rw [List.map_append] at fin;exact fin
theorem zjR (T:Txt c K mg) (zpP:zd0 P w K mg base c) (zpO:zc1 P w K mg base c) (zpE:zdy P w K mg base c) (zpL:zcx P w K mg base c) (zpI:zec P w K mg base c) (zpK:zcG P w K mg base c) (zpD:zem P w K mg base c) (zpG:zc5 P w K mg base c) (zpC:zdD P w K mg base c) (zpH:zd6 P w K mg base c) (zpJ:zcq P w K mg base c) (zpF:zc0 P w K mg base c) (zoZ:zc3 P w K mg base c):zcz P w K mg base c:=by
  obtain⟨f,fd,F,me⟩:=T.x_say;have S:FnScope ["self", "line", "words", "values", "answer"] ["self", "line"] (zf Zo):=⟨rfl,rfl,rfl,by decide +kernel,rfl,by decide +kernel,by decide +kernel⟩
  have hans:∃ a kvs,mg "ANSWERS" = some (.ref a)∧KTab K a kvs∧∀ k sp,KTD.datumAt k tabA=some sp→(∀ o cs (Q Q':Ob→Bool→L3.D→Prop),(∀ o f d,Q o f d→Q' o f d)→sp o cs Q→sp o cs Q')∧∃ f,KTD.datumAt k kvs=some (.ref f)∧FnA P w K mg base 5 f (spO K sp):=by
    obtain⟨aA,kvs,hA,hT,⟨f0,m0,k0⟩,⟨f1,m1,k1⟩,⟨f2,m2,k2⟩,⟨f3,m3,k3⟩,⟨f4,m4,k4⟩,⟨f5,m5,k5⟩,⟨f6,m6,k6⟩,⟨f7,m7,k7⟩,⟨f8,m8,k8⟩,⟨f9,m9,k9⟩,⟨f10,m10,k10⟩⟩:=T.x_answers;have mk:∀ {k:Nat} {x:Str} {ps:List Str} {sp:SpO} {f:Addr},k≤5→DfO P w K mg base k x ps sp→mg x=some (.ref f)→(∀ o cs (Q Q':Ob→Bool→L3.D→Prop),(∀ o f d,Q o f d→Q' o f d)→sp o cs Q→sp o cs Q')∧FnA P w K mg base 5 f (spO K sp):=fun hk G e=>by
      obtain⟨mono,f',fd,Fn,hb,kp,hm⟩:=G;rw [e] at hm;cases hm;exact⟨mono,fd,_,Fn.mono hk,hb,kp⟩
    refine⟨aA,kvs,hA,hT,fun k sp h=>?_⟩
    have h:=zhJ h;simp only [tabA,List.mem_cons,Prod.mk.injEq,List.not_mem_nil,or_false] at h
    rcases h with ⟨rfl,rfl⟩|⟨rfl,rfl⟩|⟨rfl,rfl⟩|⟨rfl,rfl⟩|⟨rfl,rfl⟩|⟨rfl,rfl⟩|⟨rfl,rfl⟩|⟨rfl,rfl⟩|⟨rfl,rfl⟩|⟨rfl,rfl⟩|⟨rfl,rfl⟩
    · obtain⟨m,a⟩:=mk (by decide) zpE m0;exact⟨m,f0,k0,a⟩
    · obtain⟨m,a⟩:=mk (by decide) zpL m1;exact⟨m,f1,k1,a⟩
    · obtain⟨m,a⟩:=mk (by decide) zpI m2;exact⟨m,f2,k2,a⟩
    · obtain⟨m,a⟩:=mk (by decide) zpK m3;exact⟨m,f3,k3,a⟩
    · obtain⟨m,a⟩:=mk (by decide) zpD m4;exact⟨m,f4,k4,a⟩
    · obtain⟨m,a⟩:=mk (by decide) zpG m5;exact⟨m,f5,k5,a⟩
    · obtain⟨m,a⟩:=mk (by decide) zpC m6;exact⟨m,f6,k6,a⟩
    · obtain⟨m,a⟩:=mk (by decide) zpH m7;exact⟨m,f7,k7,a⟩
    · obtain⟨m,a⟩:=mk (by decide) zpJ m8;exact⟨m,f8,k8,a⟩
    · obtain⟨m,a⟩:=mk (by decide) zpF m9;exact⟨m,f9,k9,a⟩
    · obtain⟨mono,f',fd,Fn,hb,kp,hm⟩:=zoZ
      rw [m10] at hm;cases hm;exact⟨ziu mono,f10,k10,fd,_,(Fn.imp (zik mono)).mono (by decide),hb,kp⟩
  refine⟨f,fd,me,fnO F S (fun o cs Q h=>?_) (fun cdv A outer s H H0 E E3 hE hr=>?_),F.binds fun _ _ _ _ _ _ us hl=>by obtain⟨_,_,rfl⟩:=zF hl;rfl⟩
  · obtain⟨_,_,_,_,_,_,rfl,_⟩:=h;rfl
  refine⟨_,(zc (zl (i:=2) S.nd rfl (by walk_at "o") (df3 hE zpP (hr.mono (by decide)) rfl zg (za (n3 1) zb)))
    (zc (zl (i:=3) S.nd rfl (by walk_at "o") (df3 hE zpO (hr.mono (by decide)) rfl zg (za (n3 2) (za (zm (zH (i:=0) (j:=0) rfl (by walk_at "o") rfl T.cl_D T.na_names)) zb))))
    (zkj (i:=4) (j:=0) (hr.mono (by decide)) S.nd rfl (by walk_at "o") (by walk_at "o") rfl (by walk_at "o") zg rfl hans (at3 (n3 2) i3 (fun _ _=>rfl)) (za (n3 3) zb) (by decide)))),fun o cs Q h=>?_⟩
  obtain⟨S,S',l,ws,ans,⟨dx,a,l1,l2,l3,l5,rfl⟩,rfl,g,z1,z2,hw,hL,q⟩:=h;obtain⟨z3,fm,vals,f1,f2,f3,f4,f5,f6,w,r,rfl,ht⟩:=hL;obtain⟨sp,e1,e2⟩:=zld (Q:=fun o' f d=>o'.a=a∧Q o' f d) ht ⟨dx,a,l1,l2,l3,l5,rfl⟩ g fun o' h1 h2=>⟨h1,q o' h1 h2⟩
  walk_at "rd"
  refine⟨z1,z2,w::r,by rw [hw],S.names,rfl,z3,fm,f1,f2,f3,f4,vals,f5,f6,_,by rw [hw];exact atI0,w,rfl,by decide,?_⟩
  rw [e1];exact e2
theorem ziw (T:Txt c K mg) (zpy:zcz P w K mg base c):zdH P w K mg base c:=by
  obtain⟨f,fd,F,hm⟩:=T.d_law_answers;have S:FnScope ["_law_desk", "_law_some", "_law_due", "_law_seed", "_law_told"] ["_law_desk", "_law_some", "_law_due", "_law_seed"] (zf zgN):=⟨rfl,rfl,rfl,by decide +kernel,rfl,by decide +kernel,by decide +kernel⟩
  refine⟨fun o cs Q Q' hQ h=>?_,⟨f,fd,fnO F S (fun o cs Q h=>?_) (fun cdv A outer s H H0 E E3 hE hr=>?_),F.binds fun _ _ _ _ _ _ us hl=>by obtain⟨_,_,_,_,rfl⟩:=zdf hl;rfl,F.kp,hm⟩⟩
  · walk_at "m"
  · obtain⟨_,_,_,_,_,_,_,rfl,_⟩:=h;rfl
  obtain⟨fS,fdS,me_say,F_say,b_say⟩:=zpy;refine⟨_,(zc (zoH (i:=4) S.nd rfl (by walk_at "o") (dfM (i:=0) zkO T.cl_D me_say F_say (hr.mono (by decide)) b_say zg rfl (by walk_at "o") (za (op3 zu (op3 zu (op3 zd8 s3 (op3 zN (n3 3) i3)) (j6 (op3 zd8 s3 (op3 zu i3 (op3 zN (op3 jn (n3 3) i3) i3))) (n3 1))) (op3 zd8 s3 (op3 zN (op3 jn (n3 3) i3) i3))) zb) (fun _=>zlp _)))
    (ze (zU (zcE (zdb rfl T.n_isinstance rfl rfl T.n_str jg (n3 4)) (one3 (cmp3 (zD hr.units) (n3 4) (n3 2) (nomark _))))))),fun o cs Q h=>?_⟩
  obtain⟨S,S',f,ws,due,s,⟨dx,a,l1,l2,l3,l5,rfl⟩,rfl,g,hs,hw,hL,q⟩:=h
  walk_at "rd"
  obtain⟨_,m1⟩:=Jj (n:=s%3) (by omega) (by omega)
  obtain⟨_,m2⟩:=Jj (n:=1+s/3%2) (by omega) (by omega)
  obtain⟨_,m3⟩:=Jj (n:=s/6%2) (by omega) (by omega)
  obtain⟨n1,n2,n3⟩:=zj4 hs hw;have ks:=zg5 hw;have kl:=hw.2.1;have eL:=zh6 hs hw;unfold Jk at n2 n3 eL;have d3:jM s 3:=⟨by decide,Bits.lit (x:=3) 64 |>.mono (by decide)⟩
  have d6:jM s 6:=⟨by decide,Bits.lit (x:=6) 64 |>.mono (by decide)⟩
  have b1:(Str.ofString " ").length≤1:=by decide
  refine⟨by decide,b1,by omega,by omega,d3,by decide,b1,by omega,by omega,ws,jP ws,by omega,by omega,sz (by omega),d6,by decide,b1,by omega,by omega,?_,S,⟨dx,a,l1,l2,l3,l5,rfl⟩,g,by omega,by omega,S',due,by rw [eL];exact hL,fun o' e1 e2=>⟨e1,?_⟩⟩
  · rw [jy];exact sz (by omega)
  · rw [decide_eq_true rfl];exact q o' e1 e2
theorem zkS (T:Txt c K mg) (zpc:zcS P w K mg base c) (zpd:zcw P w K mg base c) (zpb:zdH P w K mg base c) (zpm:zbD P w K mg base c) {f:Addr} {fd:FuncData} (F:Fun K "law" "law" zbx f fd):FnOk P w K mg base (CXR P w) 10 f fd ["_law_script"] (spL K J0):=by
  have S:FnScope ["_law_script", "_law_desks", "_law_models", "_law_k", "_law_first", "_law_cell", "_law_mixed", "_law_at", "_law_some", "_law_due"] ["_law_script"] (zf zbx):=⟨rfl,rfl,rfl,by decide +kernel,rfl,by decide +kernel,by decide +kernel⟩
  obtain⟨fD,fdD,mkD,FD,bD⟩:=znZ (P:=P) (w:=w) (base:=base) T;refine fn3 F S (fun ds Q E h=>?_) (fun cdv A outer s H E E3 hE hr=>?_)
  · walk_at "l"
  refine⟨_,(zc (znX (i:=1) S.nd rfl (by walk_at "o") (zeA mkD FD (hr.mono (by decide)) rfl T.m_Desk bD zg) (zeA mkD FD (hr.mono (by decide)) rfl T.m_Desk bD zg))
    (zc (zi9 (i:=2) S.nd rfl (by walk_at "o"))
    (zc (zY PassesOwn.leaving rfl (JC rfl T.n_range (za i3 zb)) (zr (i:=3) S.nd rfl (by walk_at "o")) (ze (zkp (i:=2) rfl (by walk_at "o"))))
    (zc (zl (i:=4) S.nd rfl (by walk_at "o") (df3 hE zpc (hr.mono (by decide)) rfl zg (za (n3 0) (za i3 zb))))
    (zc (zY PassesOwn.leaving rfl (zjx rfl T.n_range (za i3 (za (zw (zfN rfl) rfl T.n_min zgr (za (zw zL rfl T.n_len zM (za (n3 0) zb)) (za i3 zb))) zb))) (zr (i:=3) S.nd rfl (by walk_at "o")) (zc (zl (i:=5) S.nd rfl (by walk_at "o") (at3 (n3 0) (n3 3) (fun _ _=>rfl)))
      (zc (s_if (zj jG (n3 5) (op3 zdk i3 i3) (nomark _)) (zc (zl (i:=6) S.nd rfl (by walk_at "o") (op3 zN (op3 jz (op3 zu (op3 zu (op3 zN (n3 5) i3) (op3 jz (op3 jz i3 (n3 3)) (n3 3))) i3) i3) i3))
        (ze (zl (i:=5) S.nd rfl (by walk_at "o") (op3 zu (op3 jz (op3 zN (op3 jz (n3 6) i3) i3) i3) (n3 6))))) zk)
      (zc (zl (i:=7) S.nd rfl (by walk_at "o") (op3 zN (n3 5) i3))
      (zc (s_if (zj (zD hr.units) (op3 zN (n3 4) i3) i3 (nomark _)) (ze (zl (i:=7) S.nd rfl (by walk_at "o") (op3 zN (op3 jn (n3 3) i3) i3))) zk)
      (zc (ziE (dfL (i:=2) zpd (hr.mono (by decide)) rfl zg rfl (by walk_at "o") (n3 7) (za (zkl (op3 jn (n3 5) i3)) zb)) (J2 (n:=2) rfl (je (zr (i:=8) S.nd rfl (by walk_at "o")) (je (zr (i:=9) S.nd rfl (by walk_at "o")) Jl))))
      (ze (zfa (dfL (i:=1) zpb (hr.mono (by decide)) rfl zg rfl (by walk_at "o") (n3 7) (za (n3 8) (za (n3 9) (za (op3 zN (op3 jn (n3 5) i3) i3) zb)))) (ze (zn b3)) zk))))))))
    (zc (zY PassesOwn.leaving rfl (JC rfl T.n_range (za i3 zb)) (zr (i:=3) S.nd rfl (by walk_at "o")) (ze (zfa (dfL (i:=1) zpb (hr.mono (by decide)) rfl zg rfl (by walk_at "o") (n3 3) (za (new3 (zE (za s3 zb))) (za (dfR zpm (hr.mono (by decide)) rfl zg (za (zl6 (i:=2) rfl (by walk_at "o") (n3 3)) zb)) (za (n3 3) zb)))) (ze (zn b3)) zk)))
    (ze (zn b3)))))))),fun ds Q h=>?_⟩
  obtain⟨ns,rfl,hl,q⟩:=h
  walk_at "rd"
  intro a dx p l1 l2 l3 l5 dx' p' m1 m2 m3 m5 b;refine⟨by decide,by decide,?_⟩
  have d0:zA (newD dx p l1 l2 l3 l5) S0:=ze8 _ _ _ _ _ _;have d1:zA (newD dx' p' m1 m2 m3 m5) S0:=ze8 _ _ _ _ _ _;have eN:nums 0 (Int.toNat 2)=(List.range 2).map fun(i:Nat)=>PyData.int (0+(i:Nat)):=rfl
  rw [eN];refine z7 (fun i:Nat=>PyData.int (0+(i:Nat))) (List.range 2) (fun done ρ=>∃ (ms:List Ob) (t3:Option L3.Cl),ρ = [some (.sh false (.list (ns.map .int))),some (.lo a [newD dx p l1 l2 l3 l5,newD dx' p' m1 m2 m3 m5]),some (.lo b ms),t3,none,none,none,none,none,none]∧ms.length=done.length∧∀ m∈ms,zT m S0) ?_ ?_ ⟨[],none,rfl,rfl,fun m h=>by cases h⟩
  · rintro done i rest ρ hd ⟨ms,t3,rfl,hml,hms⟩ W hW
    have hdl:done.length≤2:=by
      have:=congrArg List.length hd;rw [List.length_range,List.length_append] at this
      omega
    walk_at "rd"
    refine⟨Nat.lt_of_lt_of_le (show _<1000000 by omega) (by decide),fun p l1 l2 l3 l4 l5=>hW _ ⟨_,_,rfl,by rw [List.length_append,List.length_append,hml];rfl,fun m hm=>?_⟩⟩
    rcases List.mem_append.mp hm with hm|hm
    · exact hms m hm
    · rw [List.mem_singleton.mp hm];exact zkM _ _ _ _ _ _
  · rintro ρ ⟨ms,t3,rfl,hml,hms⟩
    match ms,hml with
    | [p0,p1],_=>
    have B0:Both 0 (newD dx p l1 l2 l3 l5) (newD dx' p' m1 m2 m3 m5) p0 p1:=⟨S0,S0,d0,d1,hms p0 (by simp),hms p1 (by simp),inv0,inv0⟩
    generalize newD dx p l1 l2 l3 l5=o0 at B0;generalize newD dx' p' m1 m2 m3 m5=o1 at B0;clear d0 d1 hms
    walk_at "rd"
    refine⟨ns,rfl,fun n=>?_⟩
    rw [List.length_map];obtain⟨m,hm⟩:∃ m:Int,m=if 49<(ns.length:Int) then 49 else(ns.length:Int):=⟨_,rfl⟩
    rw [←hm];have m0:0≤m∧m≤49∧m≤ns.length:=by rw [hm];split<;>omega
    refine⟨by decide,by decide,by omega,by omega,?_⟩
    obtain⟨tail,hT⟩:∃ t:TS3,t=seq3 (Zy (Jr Zm 2 (v3 7) (Je (Zf (o3 (int3 jM fun i j=>PyData.int (i/j)) (v3 5) (k3 (PyData.int 2)))) nil3)) (ZC 2 (JG (gn3 8) (JG (gn3 9) gnil3)))) (ifX3 (Jr Zh 1 (v3 7) (Je (v3 8) (Je (v3 9) (Je (o3 (int3 (fun _ j=>0<j) fun i j=>PyData.int (i%j)) (o3 (int3 jM fun i j=>PyData.int (i/j)) (v3 5) (k3 (PyData.int 2))) (k3 (PyData.int 12))) nil3)))) (ret3 (k3 (PyData.bool false))) next3):=⟨_,rfl⟩
    have d2:∀ i,jM i 2:=fun i=>⟨by decide,Bits.lit (x:=2) 64 |>.mono (by decide)⟩
    have tl:∀ (k:Nat) (o0 o1 p0 p1:Ob) (cell at':Int) (t3 t6 t8 t9:Option L3.Cl) (A:Ends3),k≤49→(at'=0∨at'=1)→Both k o0 o1 p0 p1→(∀ o0' o1' p0' p1' t8' t9',Both (k+1) o0' o1' p0' p1'→A.nx [some (.sh false (.list (ns.map .int))),some (.lo a [o0',o1']),some (.lo b [p0',p1']),t3,some (.sh true (.int n)),some (.sh true (.int cell)),t6,some (.sh true (.int at')),t8',t9'])→
        tail A [some (.sh false (.list (ns.map .int))),some (.lo a [o0,o1]),some (.lo b [p0,p1]),t3,some (.sh true (.int n)),some (.sh true (.int cell)),t6,some (.sh true (.int at')),t8,t9]:=by
      intro k o0 o1 p0 p1 cell at' t3 t6 t8 t9 A hk hat ⟨SA,SB,dA,dB,mA,mB,iA,iB⟩ hW;rw [hT]
      rcases hat with rfl|rfl
      · walk_at "rd"
        simp only [show Int.toNat 0=0 from rfl,List.getElem?_cons_zero,List.set_cons_zero]
        exact⟨by decide,d2 cell,k,SA,mA,iA,by omega,fun o' ws S' due e1 e2 ⟨hL,hI,hw⟩ f=>⟨by decide,d2 cell,by decide,SA,dA,S',ws,rfl,iA.good (by omega),by omega,hw,hL,fun o'' e3 e4=>hW o'' o1 o' p1 _ _ ⟨S',SB,e4,dB,e2,mB,hI,iB.up⟩⟩⟩
      · walk_at "rd"
        simp only [show Int.toNat 1=1 from rfl,List.getElem?_cons_zero,List.getElem?_cons_succ,List.set_cons_zero,List.set_cons_succ]
        exact⟨by decide,d2 cell,k,SB,mB,iB,by omega,fun o' ws S' due e1 e2 ⟨hL,hI,hw⟩ f=>⟨by decide,d2 cell,by decide,SB,dB,S',ws,rfl,iB.good (by omega),by omega,hw,hL,fun o'' e3 e4=>hW o0 o'' p0 o' _ _ ⟨SA,S',dA,e4,mA,e2,iA.up,hI⟩⟩⟩
    rw [←hT];have eM:nums 1 (m - 1).toNat=(List.range (m - 1).toNat).map fun(i:Nat)=>PyData.int (1+(i:Nat)):=rfl
    rw [eM];refine z7 (fun i:Nat=>PyData.int (1+(i:Nat))) (List.range (m - 1).toNat) (fun done ρ=>∃ (o0 o1 p0 p1:Ob) (t3 t5 t6 t7 t8 t9:Option L3.Cl),ρ = [some (.sh false (.list (ns.map .int))),some (.lo a [o0,o1]),some (.lo b [p0,p1]),t3,some (.sh true (.int n)),t5,t6,t7,t8,t9]∧Both done.length o0 o1 p0 p1) ?_ ?_ ⟨o0,o1,p0,p1,_,_,_,_,_,_,rfl,B0⟩
    · rintro done i rest ρ hd ⟨o0,o1,p0,p1,t3,t5,t6,t7,t8,t9,rfl,B⟩ W hW
      have hdl:done.length<(m - 1).toNat:=by
        have:=congrArg List.length hd;rw [List.length_range,List.length_append,List.length_cons] at this
        omega
      have hi:i<(m - 1).toNat:=by
        have:i∈List.range (m - 1).toNat:=by rw [hd];simp
        exact List.mem_range.mp this
      have hil:1+i<ns.length:=by omega
      have ec:atI (ns.map PyData.int) (1+(i:Int))=some (.int ns[1+i]):=by
        rw [show(1+(i:Int))=((1+i:Nat):Int) by omega]
        exact jb (List.getElem?_eq_getElem hil)
      generalize ns[1+i]=cell at ec;have fin:∀ (A:Ends3) (c at':Int) (t3 t6:Option L3.Cl),A.nx=W→(at'=0∨at'=1)→tail A [some (.sh false (.list (ns.map .int))),some (.lo a [o0,o1]),some (.lo b [p0,p1]),t3,some (.sh true (.int n)),some (.sh true (.int c)),t6,some (.sh true (.int at')),t8,t9]:=fun A c at' t3 t6 eA ha=>tl done.length o0 o1 p0 p1 c at' t3 t6 t8 t9 A (by omega) ha B fun o0' o1' p0' p1' t8' t9' B'=>by
        rw [eA];exact hW _ ⟨o0',o1',p0',p1',_,_,_,_,_,_,rfl,by rw [List.length_append];exact B'⟩
      have d8:∀ i,jM i 8:=fun i=>⟨by decide,Bits.lit (x:=8) 64 |>.mono (by decide)⟩
      have two:∀ x:Int,x%2=0∨x%2=1:=fun x=>by omega
      have tw:∀ (A:Ends3) (c:Int) (t3 t6:Option L3.Cl),A.nx=W→0<(2:Int)∧0<(2:Int)∧if n%2=0 then jM (1+(i:Int)) 8∧0<(2:Int)∧tail A [some (.sh false (.list (ns.map .int))),some (.lo a [o0,o1]),some (.lo b [p0,p1]),t3,some (.sh true (.int n)),some (.sh true (.int c)),t6,some (.sh true (.int ((1+(i:Int))/8%2))),t8,t9] else tail A [some (.sh false (.list (ns.map .int))),some (.lo a [o0,o1]),some (.lo b [p0,p1]),t3,some (.sh true (.int n)),some (.sh true (.int c)),t6,some (.sh true (.int (c%2))),t8,t9]:=fun A c t3 t6 eA=>⟨by decide,by decide,itp (fun _=>⟨d8 _,by decide,fin A c _ t3 t6 eA (two _)⟩) fun _=>fin A c _ t3 t6 eA (two _)⟩
      have s64:∀ x:Int,IntMulOk x (1+(i:Int)):=fun x=>IntMulOk.of_right (intBits_le_64 (by omega) (by omega))
      walk_at "rd"
      refine⟨_,ec,⟨by decide,by decide +kernel⟩,?_⟩
      refine itp (fun _=>?_) fun _=>?_
      · exact⟨by decide,s64 _,s64 _,IntMulOk.of_right (by decide +kernel),by decide,IntMulOk.of_right (by decide +kernel),by decide,IntMulOk.of_right (by decide +kernel),tw _ _ _ _ rfl⟩
      · exact tw _ _ _ _ rfl
    · rintro ρ ⟨o0,o1,p0,p1,t3,t5,t6,t7,t8,t9,rfl,B⟩
      walk_at "rd"
      refine⟨by decide,by decide,?_⟩
      rw [List.length_range] at B;have hk:(m - 1).toNat≤50:=by omega
      generalize (m - 1).toNat=k at B hk;obtain⟨SA,SB,dA,dB,mA,mB,iA,iB⟩:=B;have gA:=iA.good hk;have gB:=iB.good hk;obtain⟨x,x1,x2,x3,x4,x5,xs,xf,rfl,xh⟩:=mA;obtain⟨y,y1,y2,y3,y4,y5,ys,yf,rfl,yh⟩:=mB;have eN2:nums 0 (Int.toNat 2)=[PyData.int 0,PyData.int 1]:=rfl;rw [eN2];obtain⟨LA,_,wA⟩:=zea iA;obtain⟨LB,_,wB⟩:=zea iB;have xe:=zhF (a:=x) (l1:=x1) (l2:=x2) (l3:=x3) (l4:=x4) (l5:=x5) (qs:=xs) xh
      have ye:=zhF (a:=y) (l1:=y1) (l2:=y2) (l3:=y3) (l4:=y4) (l5:=y5) (qs:=ys) yh
      walk_at "rd forL"
      simp only [show Int.toNat 0=0 from rfl,show Int.toNat 1=1 from rfl,List.getElem?_cons_zero,List.getElem?_cons_succ,List.set_cons_zero,List.set_cons_succ]
      exact⟨by decide,by decide,trivial,SA,xe,gA,SA,dA,SA,["show"],rfl,gA,by decide,wA,LA,fun o' e1 e2=>⟨by decide,by decide,trivial,SB,ye,gB,SB,dB,SB,["show"],rfl,gB,by decide,wB,LB,fun _ _ _=>q true⟩⟩
end
end
inductive TabR (K:PySem.W.Frag):List (Str×V)→List (Str×D)→Prop
  | nil:TabR K [] []
  | cons {x:Str} {v:V} {d:D} {l:List (Str×V)} {m:List (Str×D)}:RdV K (fun _=>none) v d→TabR K l m→TabR K ((x,v)::l) ((x,d)::m)
theorem TabR.at {K:PySem.W.Frag} {l:List (Str×V)} {m:List (Str×D)} (h:TabR K l m):∀ k d,KTD.datumAt k m=some d→∃ v,KTD.datumAt k l=some v∧RdV K (fun _=>none) v d:=by
  induction h with
  | nil=>intro k d e;cases e
  | @cons x v d' l m r _ ih=>
    intro k d e;rw [KTD.datumAt] at e ⊢
    split at e
    · rename_i hk
      cases e;exact⟨_,if_pos hk,r⟩
    · rename_i hk
      rw [if_neg hk];exact ih k d e
theorem zS {K:PySem.W.Frag} {a:Addr} {od:Option Addr} {n:Nat} {its:Array Value} {sl:Array (Option Value)} {xs:List V} {ds:List D} (q:K.lookup a=some ⟨.type "tuple", od,.seq its n,sl⟩) (z:its.size≤sizeLine) (h:L2.Vals xs its.toList) (r:RdVs K (fun _=>none) xs ds):RdV K (fun _=>none) (.ref a) (.tuple ds):=.tup (.inr ⟨_,_,_,q,rfl,rfl,z,h⟩) r
theorem ziD {K:PySem.W.Frag} {h:Heap} {mg:Str→Option Value} (X:K.In h) (G:h.Ns mainGlobals mg) {x:Str} {st:Stmt} {f:Addr} {od an:Option Addr} {sl:Array (Option Value)} {oc kV dc pm ct cd:Value} (a:PySem.W.nsIn K mainGlobals x=some (some (.ref f))) (l:K.lookup f=some ⟨oc,od,.func (PySem.W.fnOf x x (JT st) (jC st) (zf st) .none kV dc pm an cd ct),sl⟩) (c:PySem.W.codeIn K cd x=true) (k:PySem.W.keepIn K (.ref f)=true):DA K mg x st:=⟨f,_,zcr (st:=st) l c k,PySem.W.mg_of X G a⟩
abbrev zbU (C:Addr):LamW:=⟨⟨0,0,0,0⟩,"", C⟩
theorem zj9 {K:PySem.W.Frag} {h:Heap} {mg:Str→Option Value} (X:K.In h) (G:h.Ns mainGlobals mg)
    {c_NoRatio:Addr}
    {c_NoText:Addr}
    {c_NoSpell:Addr}
    {c_NoRow:Addr}
    {c_NoBounds:Addr}
    {c_NoRule:Addr}
    {c_NoLine:Addr}
    {c_NoNumber:Addr}
    {c_NoName:Addr}
    {c_Known:Addr}
    {c_TooMany:Addr}
    {c_Desk:Addr}
    {fI:Addr} {odI anI:Option Addr} {slI:Array (Option Value)} {ocI kVI dcI pmI ctI cdI:Value}
    {fS:Addr} {odS anS:Option Addr} {slS:Array (Option Value)} {ocS kVS dcS pmS ctS cdS:Value}
    {aA:Addr} {epA:Nat} {hA0 hA1 hA2 hA3 hA4 hA5 hA6 hA7 hA8 hA9 hA10 hA11 hA12 hA13 hA14 hA15:Int} {tA0 tA1 tA2 tA3 tA4 tA5 tA6 tA7 tA8 tA9 tA10 tA11 tA12 tA13 tA14 tA15:Tok} {gA0 gA1 gA2 gA3 gA4 gA5 gA6 gA7 gA8 gA9 gA10 gA11 gA12 gA13 gA14 gA15:Addr}
    {t0:Addr} {to0:Option Addr} {tn0:Nat} {ts0:Array (Option Value)}
    {u0_0:Tok}
    {u0_1:Tok}
    {t1:Addr} {to1:Option Addr} {tn1:Nat} {ts1:Array (Option Value)}
    {u1_0:Tok}
    {u1_1:Tok}
    {t_MOST_SPELLS:Tok}
    {t_MOST_CLANS:Tok}
    {t_MOST_TURNS:Tok}
    {t_FIGURES:Tok}
    {t_MOST_FIGURES:Tok}
    {t_LETTERS:Tok}
    {t_MOST_LETTERS:Tok}
    {t_LONGEST_NUMBER:Tok}
    {a_FORMS:Addr} {ep_FORMS:Nat} {h0_FORMS h1_FORMS h2_FORMS h3_FORMS h4_FORMS h5_FORMS h6_FORMS h7_FORMS h8_FORMS h9_FORMS h10_FORMS h11_FORMS h12_FORMS h13_FORMS h14_FORMS:Int} {k0_FORMS k1_FORMS k2_FORMS k3_FORMS k4_FORMS k5_FORMS k6_FORMS k7_FORMS k8_FORMS k9_FORMS k10_FORMS k11_FORMS k12_FORMS k13_FORMS k14_FORMS:Tok}
    {t2:Addr} {to2:Option Addr} {tn2:Nat} {ts2:Array (Option Value)}
    {u2_0:Tok}
    {u2_1:Tok}
    {t3:Addr} {to3:Option Addr} {tn3:Nat} {ts3:Array (Option Value)}
    {u3_0:Tok}
    {u3_1:Tok}
    {t4:Addr} {to4:Option Addr} {tn4:Nat} {ts4:Array (Option Value)}
    {u4_0:Tok}
    {u4_1:Tok}
    {t5:Addr} {to5:Option Addr} {tn5:Nat} {ts5:Array (Option Value)}
    {u5_0:Tok}
    {t6:Addr} {to6:Option Addr} {tn6:Nat} {ts6:Array (Option Value)}
    {u6_0:Tok}
    {u6_1:Tok}
    {u6_2:Tok}
    {t7:Addr} {to7:Option Addr} {tn7:Nat} {ts7:Array (Option Value)}
    {u7_0:Tok}
    {u7_1:Tok}
    {t8:Addr} {to8:Option Addr} {tn8:Nat} {ts8:Array (Option Value)}
    {u8_0:Tok}
    {u8_1:Tok}
    {t9:Addr} {to9:Option Addr} {tn9:Nat} {ts9:Array (Option Value)}
    {u9_0:Tok}
    {t10:Addr} {to10:Option Addr} {tn10:Nat} {ts10:Array (Option Value)}
    {t11:Addr} {to11:Option Addr} {tn11:Nat} {ts11:Array (Option Value)}
    {t12:Addr} {to12:Option Addr} {tn12:Nat} {ts12:Array (Option Value)}
    {t13:Addr} {to13:Option Addr} {tn13:Nat} {ts13:Array (Option Value)}
    {t14:Addr} {to14:Option Addr} {tn14:Nat} {ts14:Array (Option Value)}
    {t15:Addr} {to15:Option Addr} {tn15:Nat} {ts15:Array (Option Value)}
    {t16:Addr} {to16:Option Addr} {tn16:Nat} {ts16:Array (Option Value)}
    {t17:Addr} {to17:Option Addr} {tn17:Nat} {ts17:Array (Option Value)}
    {u17_0:Tok}
    {u17_1:Tok}
    {u17_2:Tok}
    {u17_3:Tok}
    {t_FIXED:Tok}
    {t_BARRED:Tok}
    {t_DONE:Tok}
    {t18:Addr} {to18:Option Addr} {tn18:Nat} {ts18:Array (Option Value)}
    {t19:Addr} {to19:Option Addr} {tn19:Nat} {ts19:Array (Option Value)}
    {u19_0:Tok}
    {u19_1:Tok}
    {t20:Addr} {to20:Option Addr} {tn20:Nat} {ts20:Array (Option Value)}
    {u20_0:Tok}
    {u20_1:Tok}
    {a_WORDS_OF_RULES:Addr} {ep_WORDS_OF_RULES:Nat} {h0_WORDS_OF_RULES h1_WORDS_OF_RULES:Int} {k0_WORDS_OF_RULES k1_WORDS_OF_RULES:Tok}
    {v0_WORDS_OF_RULES:Tok}
    {v1_WORDS_OF_RULES:Tok}
    (D:TxtD K mg)
    (m_NoRatio:PySem.W.nsIn K mainGlobals "NoRatio" = some (some (.ref c_NoRatio)))
    (e_NoRatio:PySem.W.excIn K c_NoRatio [.type "ValueError", .type "Exception", .type "BaseException", .type "object"] "ValueError.__new__" = true)
    (m_NoText:PySem.W.nsIn K mainGlobals "NoText" = some (some (.ref c_NoText)))
    (e_NoText:PySem.W.excIn K c_NoText [.type "ValueError", .type "Exception", .type "BaseException", .type "object"] "ValueError.__new__" = true)
    (m_NoSpell:PySem.W.nsIn K mainGlobals "NoSpell" = some (some (.ref c_NoSpell)))
    (e_NoSpell:PySem.W.excIn K c_NoSpell [.type "ValueError", .type "Exception", .type "BaseException", .type "object"] "ValueError.__new__" = true)
    (m_NoRow:PySem.W.nsIn K mainGlobals "NoRow" = some (some (.ref c_NoRow)))
    (e_NoRow:PySem.W.excIn K c_NoRow [.type "ValueError", .type "Exception", .type "BaseException", .type "object"] "ValueError.__new__" = true)
    (m_NoBounds:PySem.W.nsIn K mainGlobals "NoBounds" = some (some (.ref c_NoBounds)))
    (e_NoBounds:PySem.W.excIn K c_NoBounds [.type "ValueError", .type "Exception", .type "BaseException", .type "object"] "ValueError.__new__" = true)
    (m_NoRule:PySem.W.nsIn K mainGlobals "NoRule" = some (some (.ref c_NoRule)))
    (e_NoRule:PySem.W.excIn K c_NoRule [.type "ValueError", .type "Exception", .type "BaseException", .type "object"] "ValueError.__new__" = true)
    (m_NoLine:PySem.W.nsIn K mainGlobals "NoLine" = some (some (.ref c_NoLine)))
    (e_NoLine:PySem.W.excIn K c_NoLine [.type "ValueError", .type "Exception", .type "BaseException", .type "object"] "ValueError.__new__" = true)
    (m_NoNumber:PySem.W.nsIn K mainGlobals "NoNumber" = some (some (.ref c_NoNumber)))
    (e_NoNumber:PySem.W.excIn K c_NoNumber [.type "ValueError", .type "Exception", .type "BaseException", .type "object"] "ValueError.__new__" = true)
    (m_NoName:PySem.W.nsIn K mainGlobals "NoName" = some (some (.ref c_NoName)))
    (e_NoName:PySem.W.excIn K c_NoName [.type "ValueError", .type "Exception", .type "BaseException", .type "object"] "ValueError.__new__" = true)
    (m_Known:PySem.W.nsIn K mainGlobals "Known" = some (some (.ref c_Known)))
    (e_Known:PySem.W.excIn K c_Known [.type "ValueError", .type "Exception", .type "BaseException", .type "object"] "ValueError.__new__" = true)
    (m_TooMany:PySem.W.nsIn K mainGlobals "TooMany" = some (some (.ref c_TooMany)))
    (e_TooMany:PySem.W.excIn K c_TooMany [.type "ValueError", .type "Exception", .type "BaseException", .type "object"] "ValueError.__new__" = true)
    (m_Desk:PySem.W.nsIn K mainGlobals "Desk" = some (some (.ref c_Desk)))
    (f0I:PySem.W.findIn K (.ref c_Desk) "__init__" = some (some (.ref fI)))
    (l0I:K.lookup fI=some ⟨ocI,odI,.func (PySem.W.fnOf "__init__" "Desk.__init__" (JT Za) (jC Za) (zf Za) .none kVI dcI pmI anI cdI ctI),slI⟩)
    (c0I:PySem.W.codeIn K cdI "Desk.__init__" = true)
    (k0I:PySem.W.keepIn K (.ref fI)=true)
    (g0I:PySem.W.isFn K (.ref fI)=true)
    (f0S:PySem.W.findIn K (.ref c_Desk) "say" = some (some (.ref fS)))
    (l0S:K.lookup fS=some ⟨ocS,odS,.func (PySem.W.fnOf "say" "Desk.say" (JT Zo) (jC Zo) (zf Zo) .none kVS dcS pmS anS cdS ctS),slS⟩)
    (c0S:PySem.W.codeIn K cdS "Desk.say" = true)
    (k0S:PySem.W.keepIn K (.ref fS)=true)
    (g0S:PySem.W.isFn K (.ref fS)=true)
    (y1:PySem.W.makesIn K c_Desk=true)
    (y2:PySem.W.keepIn K (.ref c_Desk)=true)
    (y3:PySem.W.plainGet K c_Desk Str.empty=true)
    (y4:PySem.W.hasDictIn K c_Desk=true)
    (y5:PySem.W.plainOver K c_Desk=true)
    (y6:PySem.W.findIn K (.ref c_Desk) "__setattr__" = some (some (.builtin "object.__setattr__")))
    (na_names:PySem.W.findIn K (.ref c_Desk) "names" = some none)
    (na_weights:PySem.W.findIn K (.ref c_Desk) "weights" = some none)
    (na_bounds:PySem.W.findIn K (.ref c_Desk) "bounds" = some none)
    (na_spells:PySem.W.findIn K (.ref c_Desk) "spells" = some none)
    (na_rules:PySem.W.findIn K (.ref c_Desk) "rules" = some none)
    (na_row:PySem.W.findIn K (.ref c_Desk) "row" = some none)
    (m_A:PySem.W.nsIn K mainGlobals "ANSWERS" = some (some (.ref aA)))
    (q_A:K.lookup aA=some ⟨.type "dict", none,.dict #[⟨hA0,.str "clan" tA0,.ref gA0⟩,⟨hA1,.str "weight" tA1,.ref gA1⟩,⟨hA2,.str "merge" tA2,.ref gA2⟩,⟨hA3,.str "turns" tA3,.ref gA3⟩,⟨hA4,.str "bound" tA4,.ref gA4⟩,⟨hA5,.str "fix" tA5,.ref gA5⟩,⟨hA6,.str "bar" tA6,.ref gA6⟩,⟨hA7,.str "free" tA7,.ref gA7⟩,⟨hA8,.str "row" tA8,.ref gA8⟩,⟨hA9,.str "clear" tA9,.ref gA9⟩,⟨hA10,.str "show" tA10,.ref gA10⟩,⟨hA11,.str "least" tA11,.ref gA11⟩,⟨hA12,.str "keep" tA12,.ref gA12⟩,⟨hA13,.str "place" tA13,.ref gA13⟩,⟨hA14,.str "mend" tA14,.ref gA14⟩,⟨hA15,.str "round" tA15,.ref gA15⟩] epA,#[]⟩)
    (b_A0:PySem.W.nsIn K mainGlobals "tell_clan" = some (some (.ref gA0)))
    (b_A1:PySem.W.nsIn K mainGlobals "tell_weight" = some (some (.ref gA1)))
    (b_A2:PySem.W.nsIn K mainGlobals "tell_merge" = some (some (.ref gA2)))
    (b_A3:PySem.W.nsIn K mainGlobals "tell_turns" = some (some (.ref gA3)))
    (b_A4:PySem.W.nsIn K mainGlobals "tell_bound" = some (some (.ref gA4)))
    (b_A5:PySem.W.nsIn K mainGlobals "tell_fix" = some (some (.ref gA5)))
    (b_A6:PySem.W.nsIn K mainGlobals "tell_bar" = some (some (.ref gA6)))
    (b_A7:PySem.W.nsIn K mainGlobals "tell_free" = some (some (.ref gA7)))
    (b_A8:PySem.W.nsIn K mainGlobals "tell_row" = some (some (.ref gA8)))
    (b_A9:PySem.W.nsIn K mainGlobals "tell_clear" = some (some (.ref gA9)))
    (b_A10:PySem.W.nsIn K mainGlobals "answer_show" = some (some (.ref gA10)))
    (m_LEAST_BOUND:PySem.W.nsIn K mainGlobals "LEAST_BOUND" = some (some (.ref t0)))
    (qt0:K.lookup t0=some ⟨.type "tuple", to0,.seq #[.int 0 u0_0,.int 1 u0_1] tn0,ts0⟩)
    (m_MOST_BOUND:PySem.W.nsIn K mainGlobals "MOST_BOUND" = some (some (.ref t1)))
    (qt1:K.lookup t1=some ⟨.type "tuple", to1,.seq #[.int 10 u1_0,.int 1 u1_1] tn1,ts1⟩)
    (m_MOST_SPELLS:PySem.W.nsIn K mainGlobals "MOST_SPELLS" = some (some (.int 8 t_MOST_SPELLS)))
    (m_MOST_CLANS:PySem.W.nsIn K mainGlobals "MOST_CLANS" = some (some (.int 8 t_MOST_CLANS)))
    (m_MOST_TURNS:PySem.W.nsIn K mainGlobals "MOST_TURNS" = some (some (.int 60 t_MOST_TURNS)))
    (m_FIGURES:PySem.W.nsIn K mainGlobals "FIGURES" = some (some (.str "0123456789" t_FIGURES)))
    (m_MOST_FIGURES:PySem.W.nsIn K mainGlobals "MOST_FIGURES" = some (some (.int 60 t_MOST_FIGURES)))
    (m_LETTERS:PySem.W.nsIn K mainGlobals "LETTERS" = some (some (.str "abcdefghijklmnopqrstuvwxyz" t_LETTERS)))
    (m_MOST_LETTERS:PySem.W.nsIn K mainGlobals "MOST_LETTERS" = some (some (.int 8 t_MOST_LETTERS)))
    (m_LONGEST_NUMBER:PySem.W.nsIn K mainGlobals "LONGEST_NUMBER" = some (some (.int 12 t_LONGEST_NUMBER)))
    (m_FORMS:PySem.W.nsIn K mainGlobals "FORMS" = some (some (.ref a_FORMS)))
    (q_FORMS:K.lookup a_FORMS=some ⟨.type "dict", none,.dict #[⟨h0_FORMS,.str "clan" k0_FORMS,.ref t2⟩,⟨h1_FORMS,.str "weight" k1_FORMS,.ref t3⟩,⟨h2_FORMS,.str "merge" k2_FORMS,.ref t4⟩,⟨h3_FORMS,.str "turns" k3_FORMS,.ref t5⟩,⟨h4_FORMS,.str "bound" k4_FORMS,.ref t6⟩,⟨h5_FORMS,.str "fix" k5_FORMS,.ref t7⟩,⟨h6_FORMS,.str "bar" k6_FORMS,.ref t8⟩,⟨h7_FORMS,.str "free" k7_FORMS,.ref t9⟩,⟨h8_FORMS,.str "clear" k8_FORMS,.ref t10⟩,⟨h9_FORMS,.str "show" k9_FORMS,.ref t11⟩,⟨h10_FORMS,.str "least" k10_FORMS,.ref t12⟩,⟨h11_FORMS,.str "keep" k11_FORMS,.ref t13⟩,⟨h12_FORMS,.str "place" k12_FORMS,.ref t14⟩,⟨h13_FORMS,.str "mend" k13_FORMS,.ref t15⟩,⟨h14_FORMS,.str "round" k14_FORMS,.ref t16⟩] ep_FORMS,#[]⟩)
    (qt2:K.lookup t2=some ⟨.type "tuple", to2,.seq #[.str "new" u2_0,.str "number" u2_1] tn2,ts2⟩)
    (qt3:K.lookup t3=some ⟨.type "tuple", to3,.seq #[.str "name" u3_0,.str "number" u3_1] tn3,ts3⟩)
    (qt4:K.lookup t4=some ⟨.type "tuple", to4,.seq #[.str "name" u4_0,.str "name" u4_1] tn4,ts4⟩)
    (qt5:K.lookup t5=some ⟨.type "tuple", to5,.seq #[.str "number" u5_0] tn5,ts5⟩)
    (qt6:K.lookup t6=some ⟨.type "tuple", to6,.seq #[.str "name" u6_0,.str "ratio" u6_1,.str "ratio" u6_2] tn6,ts6⟩)
    (qt7:K.lookup t7=some ⟨.type "tuple", to7,.seq #[.str "number" u7_0,.str "name" u7_1] tn7,ts7⟩)
    (qt8:K.lookup t8=some ⟨.type "tuple", to8,.seq #[.str "number" u8_0,.str "name" u8_1] tn8,ts8⟩)
    (qt9:K.lookup t9=some ⟨.type "tuple", to9,.seq #[.str "number" u9_0] tn9,ts9⟩)
    (qt10:K.lookup t10=some ⟨.type "tuple", to10,.seq #[] tn10,ts10⟩)
    (qt11:K.lookup t11=some ⟨.type "tuple", to11,.seq #[] tn11,ts11⟩)
    (qt12:K.lookup t12=some ⟨.type "tuple", to12,.seq #[] tn12,ts12⟩)
    (qt13:K.lookup t13=some ⟨.type "tuple", to13,.seq #[] tn13,ts13⟩)
    (qt14:K.lookup t14=some ⟨.type "tuple", to14,.seq #[] tn14,ts14⟩)
    (qt15:K.lookup t15=some ⟨.type "tuple", to15,.seq #[] tn15,ts15⟩)
    (qt16:K.lookup t16=some ⟨.type "tuple", to16,.seq #[] tn16,ts16⟩)
    (m_KINDS:PySem.W.nsIn K mainGlobals "KINDS" = some (some (.ref t17)))
    (qt17:K.lookup t17=some ⟨.type "tuple", to17,.seq #[.str "number" u17_0,.str "ratio" u17_1,.str "new" u17_2,.str "name" u17_3] tn17,ts17⟩)
    (m_FIXED:PySem.W.nsIn K mainGlobals "FIXED" = some (some (.str "fixed" t_FIXED)))
    (m_BARRED:PySem.W.nsIn K mainGlobals "BARRED" = some (some (.str "barred" t_BARRED)))
    (m_DONE:PySem.W.nsIn K mainGlobals "DONE" = some (some (.str "ok" t_DONE)))
    (m_FIRST_BOUNDS:PySem.W.nsIn K mainGlobals "FIRST_BOUNDS" = some (some (.ref t18)))
    (qt18:K.lookup t18=some ⟨.type "tuple", to18,.seq #[.ref t19,.ref t20] tn18,ts18⟩)
    (qt19:K.lookup t19=some ⟨.type "tuple", to19,.seq #[.int 1 u19_0,.int 1 u19_1] tn19,ts19⟩)
    (qt20:K.lookup t20=some ⟨.type "tuple", to20,.seq #[.int 1 u20_0,.int 1 u20_1] tn20,ts20⟩)
    (m_WORDS_OF_RULES:PySem.W.nsIn K mainGlobals "WORDS_OF_RULES" = some (some (.ref a_WORDS_OF_RULES)))
    (q_WORDS_OF_RULES:K.lookup a_WORDS_OF_RULES=some ⟨.type "dict", none,.dict #[⟨h0_WORDS_OF_RULES,.str "fixed" k0_WORDS_OF_RULES,.str "fix" v0_WORDS_OF_RULES⟩,⟨h1_WORDS_OF_RULES,.str "barred" k1_WORDS_OF_RULES,.str "bar" v1_WORDS_OF_RULES⟩] ep_WORDS_OF_RULES,#[]⟩):∃ c:Law.Cl,@Txt (zbU c_Desk) c K mg:=
  letI:LamW:=zbU c_Desk
  ⟨⟨c_NoRatio,c_NoText,c_NoSpell,c_NoRow,c_NoBounds,c_NoRule,c_NoLine,c_NoNumber,c_NoName,c_Known,c_TooMany⟩,{
    toTxtD:=D,
    m_NoRatio:=PySem.W.mg_of X G m_NoRatio,
    e_NoRatio:=e_NoRatio,
    m_NoText:=PySem.W.mg_of X G m_NoText,
    e_NoText:=e_NoText,
    m_NoSpell:=PySem.W.mg_of X G m_NoSpell,
    e_NoSpell:=e_NoSpell,
    m_NoRow:=PySem.W.mg_of X G m_NoRow,
    e_NoRow:=e_NoRow,
    m_NoBounds:=PySem.W.mg_of X G m_NoBounds,
    e_NoBounds:=e_NoBounds,
    m_NoRule:=PySem.W.mg_of X G m_NoRule,
    e_NoRule:=e_NoRule,
    m_NoLine:=PySem.W.mg_of X G m_NoLine,
    e_NoLine:=e_NoLine,
    m_NoNumber:=PySem.W.mg_of X G m_NoNumber,
    e_NoNumber:=e_NoNumber,
    m_NoName:=PySem.W.mg_of X G m_NoName,
    e_NoName:=e_NoName,
    m_Known:=PySem.W.mg_of X G m_Known,
    e_Known:=e_Known,
    m_TooMany:=PySem.W.mg_of X G m_TooMany,
    e_TooMany:=e_TooMany,
    m_Desk:=PySem.W.mg_of X G m_Desk,
    cl_D:=⟨y3,y4,y5,y6⟩,
    x_init:=⟨fI,_,zcr (st:=Za) l0I c0I k0I,⟨y1,f0I,g0I,y2⟩⟩,
    x_say:=⟨fS,_,zcr (st:=Zo) l0S c0S k0S,⟨f0S,g0S,k0S⟩⟩,
    na_names:=na_names,
    na_weights:=na_weights,
    na_bounds:=na_bounds,
    na_spells:=na_spells,
    na_rules:=na_rules,
    na_row:=na_row,
    x_answers:=⟨aA,[("clan", .ref gA0),("weight", .ref gA1),("merge", .ref gA2),("turns", .ref gA3),("bound", .ref gA4),("fix", .ref gA5),("bar", .ref gA6),("free", .ref gA7),("row", .ref gA8),("clear", .ref gA9),("show", .ref gA10),("least", .ref gA11),("keep", .ref gA12),("place", .ref gA13),("mend", .ref gA14),("round", .ref gA15)],PySem.W.mg_of X G m_A,⟨_,_,_,q_A,⟨rfl,rfl,rfl⟩,rfl,(.cons rfl rfl (.cons rfl rfl (.cons rfl rfl (.cons rfl rfl (.cons rfl rfl (.cons rfl rfl (.cons rfl rfl (.cons rfl rfl (.cons rfl rfl (.cons rfl rfl (.cons rfl rfl (.cons rfl rfl (.cons rfl rfl (.cons rfl rfl (.cons rfl rfl (.cons rfl rfl .nil))))))))))))))))⟩,⟨gA0,PySem.W.mg_of X G b_A0,rfl⟩,⟨gA1,PySem.W.mg_of X G b_A1,rfl⟩,⟨gA2,PySem.W.mg_of X G b_A2,rfl⟩,⟨gA3,PySem.W.mg_of X G b_A3,rfl⟩,⟨gA4,PySem.W.mg_of X G b_A4,rfl⟩,⟨gA5,PySem.W.mg_of X G b_A5,rfl⟩,⟨gA6,PySem.W.mg_of X G b_A6,rfl⟩,⟨gA7,PySem.W.mg_of X G b_A7,rfl⟩,⟨gA8,PySem.W.mg_of X G b_A8,rfl⟩,⟨gA9,PySem.W.mg_of X G b_A9,rfl⟩,⟨gA10,PySem.W.mg_of X G b_A10,rfl⟩⟩,
    m_LEAST_BOUND:=⟨_,PySem.W.mg_of X G m_LEAST_BOUND,(zS (xs:=[.int 0,.int 1]) qt0 (show 2≤sizeLine by decide) (.cons ⟨_,rfl⟩ (.cons ⟨_,rfl⟩ .nil)) (.cons (.int _) (.cons (.int _) .nil)))⟩,
    m_MOST_BOUND:=⟨_,PySem.W.mg_of X G m_MOST_BOUND,(zS (xs:=[.int 10,.int 1]) qt1 (show 2≤sizeLine by decide) (.cons ⟨_,rfl⟩ (.cons ⟨_,rfl⟩ .nil)) (.cons (.int _) (.cons (.int _) .nil)))⟩,
    m_MOST_SPELLS:=⟨_,PySem.W.mg_of X G m_MOST_SPELLS⟩,
    m_MOST_CLANS:=⟨_,PySem.W.mg_of X G m_MOST_CLANS⟩,
    m_MOST_TURNS:=⟨_,PySem.W.mg_of X G m_MOST_TURNS⟩,
    m_FIGURES:=⟨_,PySem.W.mg_of X G m_FIGURES⟩,
    m_MOST_FIGURES:=⟨_,PySem.W.mg_of X G m_MOST_FIGURES⟩,
    m_LETTERS:=⟨_,PySem.W.mg_of X G m_LETTERS⟩,
    m_MOST_LETTERS:=⟨_,PySem.W.mg_of X G m_MOST_LETTERS⟩,
    m_LONGEST_NUMBER:=⟨_,PySem.W.mg_of X G m_LONGEST_NUMBER⟩,
    m_FORMS:=⟨_,PySem.W.mg_of X G m_FORMS,[("clan", .ref t2),("weight", .ref t3),("merge", .ref t4),("turns", .ref t5),("bound", .ref t6),("fix", .ref t7),("bar", .ref t8),("free", .ref t9),("clear", .ref t10),("show", .ref t11),("least", .ref t12),("keep", .ref t13),("place", .ref t14),("mend", .ref t15),("round", .ref t16)],⟨_,_,_,q_FORMS,⟨rfl,rfl,rfl⟩,rfl,(.cons rfl rfl (.cons rfl rfl (.cons rfl rfl (.cons rfl rfl (.cons rfl rfl (.cons rfl rfl (.cons rfl rfl (.cons rfl rfl (.cons rfl rfl (.cons rfl rfl (.cons rfl rfl (.cons rfl rfl (.cons rfl rfl (.cons rfl rfl (.cons rfl rfl .nil)))))))))))))))⟩,TabR.at (.cons (zS (xs:=[.str "new", .str "number"]) qt2 (show 2≤sizeLine by decide) (.cons ⟨_,rfl⟩ (.cons ⟨_,rfl⟩ .nil)) (.cons (.str _) (.cons (.str _) .nil))) (.cons (zS (xs:=[.str "name", .str "number"]) qt3 (show 2≤sizeLine by decide) (.cons ⟨_,rfl⟩ (.cons ⟨_,rfl⟩ .nil)) (.cons (.str _) (.cons (.str _) .nil))) (.cons (zS (xs:=[.str "name", .str "name"]) qt4 (show 2≤sizeLine by decide) (.cons ⟨_,rfl⟩ (.cons ⟨_,rfl⟩ .nil)) (.cons (.str _) (.cons (.str _) .nil))) (.cons (zS (xs:=[.str "number"]) qt5 (show 1≤sizeLine by decide) (.cons ⟨_,rfl⟩ .nil) (.cons (.str _) .nil)) (.cons (zS (xs:=[.str "name", .str "ratio", .str "ratio"]) qt6 (show 3≤sizeLine by decide) (.cons ⟨_,rfl⟩ (.cons ⟨_,rfl⟩ (.cons ⟨_,rfl⟩ .nil))) (.cons (.str _) (.cons (.str _) (.cons (.str _) .nil)))) (.cons (zS (xs:=[.str "number", .str "name"]) qt7 (show 2≤sizeLine by decide) (.cons ⟨_,rfl⟩ (.cons ⟨_,rfl⟩ .nil)) (.cons (.str _) (.cons (.str _) .nil))) (.cons (zS (xs:=[.str "number", .str "name"]) qt8 (show 2≤sizeLine by decide) (.cons ⟨_,rfl⟩ (.cons ⟨_,rfl⟩ .nil)) (.cons (.str _) (.cons (.str _) .nil))) (.cons (zS (xs:=[.str "number"]) qt9 (show 1≤sizeLine by decide) (.cons ⟨_,rfl⟩ .nil) (.cons (.str _) .nil)) (.cons (zS (xs:=[]) qt10 (show 0≤sizeLine by decide) .nil .nil) (.cons (zS (xs:=[]) qt11 (show 0≤sizeLine by decide) .nil .nil) (.cons (zS (xs:=[]) qt12 (show 0≤sizeLine by decide) .nil .nil) (.cons (zS (xs:=[]) qt13 (show 0≤sizeLine by decide) .nil .nil) (.cons (zS (xs:=[]) qt14 (show 0≤sizeLine by decide) .nil .nil) (.cons (zS (xs:=[]) qt15 (show 0≤sizeLine by decide) .nil .nil) (.cons (zS (xs:=[]) qt16 (show 0≤sizeLine by decide) .nil .nil) .nil)))))))))))))))⟩,
    m_KINDS:=⟨_,PySem.W.mg_of X G m_KINDS,(zS (xs:=[.str "number", .str "ratio", .str "new", .str "name"]) qt17 (show 4≤sizeLine by decide) (.cons ⟨_,rfl⟩ (.cons ⟨_,rfl⟩ (.cons ⟨_,rfl⟩ (.cons ⟨_,rfl⟩ .nil)))) (.cons (.str _) (.cons (.str _) (.cons (.str _) (.cons (.str _) .nil)))))⟩,
    m_FIXED:=⟨_,PySem.W.mg_of X G m_FIXED⟩,
    m_BARRED:=⟨_,PySem.W.mg_of X G m_BARRED⟩,
    m_DONE:=⟨_,PySem.W.mg_of X G m_DONE⟩,
    m_FIRST_BOUNDS:=⟨_,PySem.W.mg_of X G m_FIRST_BOUNDS,(zS (xs:=[.ref t19,.ref t20]) qt18 (show 2≤sizeLine by decide) (.cons rfl (.cons rfl .nil)) (.cons (zS (xs:=[.int 1,.int 1]) qt19 (show 2≤sizeLine by decide) (.cons ⟨_,rfl⟩ (.cons ⟨_,rfl⟩ .nil)) (.cons (.int _) (.cons (.int _) .nil))) (.cons (zS (xs:=[.int 1,.int 1]) qt20 (show 2≤sizeLine by decide) (.cons ⟨_,rfl⟩ (.cons ⟨_,rfl⟩ .nil)) (.cons (.int _) (.cons (.int _) .nil))) .nil)))⟩,
    m_WORDS_OF_RULES:=⟨_,PySem.W.mg_of X G m_WORDS_OF_RULES,[("fixed", .str "fix"),("barred", .str "bar")],⟨_,_,_,q_WORDS_OF_RULES,⟨rfl,rfl,rfl⟩,rfl,(.cons rfl ⟨_,rfl⟩ (.cons rfl ⟨_,rfl⟩ .nil))⟩,TabR.at (.cons (.str _) (.cons (.str _) .nil))⟩ }⟩
section
variable [LamW] {P:Program} {w:World} {c:Law.Cl} {K:PySem.W.Frag} {mg:Str→Option Value} {base:Heap}
theorem zod (T:Txt c K mg):zcS P w K mg base c:=zk6 T
theorem zau (T:Txt c K mg):JB P w K mg base c:=zlr T
theorem zeP (T:Txt c K mg):zca P w K mg base c:=zi6 T
theorem zgy (T:Txt c K mg):zck P w K mg base c:=zn5 T (zau T)
theorem znt (T:Txt c K mg):zd4 P w K mg base c:=zlL T
theorem zjr (T:Txt c K mg):zeg P w K mg base c:=zkK T (znt T) (zau T)
theorem zgM (T:Txt c K mg):zcf P w K mg base c:=zoI T
theorem ziH (T:Txt c K mg):zd5 P w K mg base c:=zmq T (zau T) (zgy T) (zjr T) (zgM T)
theorem zha (T:Txt c K mg):zbD P w K mg base c:=zmA T (zgM T)
theorem zjM (T:Txt c K mg):zeb P w K mg base c:=zlk T
theorem zjU (T:Txt c K mg):zcy P w K mg base c:=zkB T (zjM T)
theorem zk5 (T:Txt c K mg):zcO P w K mg base c:=zm1 T (zgy T) (zjU T)
theorem zlQ (T:Txt c K mg):zcZ P w K mg base c:=zmf T (zau T) (zeP T)
theorem zjT (T:Txt c K mg):zcw P w K mg base c:=zk4 T (zau T) (zeP T) (ziH T) (zha T) (zk5 T) (zlQ T)
theorem zlB (T:Txt c K mg):zd0 P w K mg base c:=zk9 T
theorem znz (T:Txt c K mg):zdi P w K mg base c:=zll T
theorem zn8 (T:Txt c K mg):zdA P w K mg base c:=zkL T
theorem zla (T:Txt c K mg):zc7 P w K mg base c:=zim T
theorem zfl (T:Txt c K mg):zbI P w K mg base c:=zkR T
theorem zmN (T:Txt c K mg):zcv P w K mg base c:=zmu T (zfl T)
theorem zfX (T:Txt c K mg):zbO P w K mg base c:=zjH T
theorem zmZ (T:Txt c K mg):zda P w K mg base c:=zkH T (zfX T)
theorem zot (T:Txt c K mg):zdW P w K mg base c:=zkw T
theorem zom (T:Txt c K mg):zcu P w K mg base c:=zoU T
theorem zop (T:Txt c K mg):zcX P w K mg base c:=znB T (zot T) (zom T)
theorem zeq (T:Txt c K mg):zbN P w K mg base c:=zlA T
theorem zjS (T:Txt c K mg):zdE P w K mg base c:=zhQ T (zmZ T) (zop T) (zfX T) (zeq T)
theorem zjY (T:Txt c K mg):zcD P w K mg base c:=zka T (zfl T)
theorem zk8 (T:Txt c K mg):zc6 P w K mg base c:=ziK T (zla T) (zmN T) (zjS T) (zjY T)
theorem zmi (T:Txt c K mg):zc1 P w K mg base c:=zkY T (znz T) (zn8 T) (zk8 T)
theorem zjD (T:Txt c K mg):zdy P w K mg base c:=zj8 T
theorem zhZ (T:Txt c K mg):zcx P w K mg base c:=znY T
theorem zmj (T:Txt c K mg):zec P w K mg base c:=zna T
theorem zhT (T:Txt c K mg):zcT P w K mg base c:=zij T
theorem zb4 (T:Txt c K mg):J4 P w K mg base c:=ziG T
theorem zjB (T:Txt c K mg):zdV P w K mg base c:=zj6 T (zhT T) (zb4 T)
theorem zia (T:Txt c K mg):zcG P w K mg base c:=zoS T (zjB T)
theorem zjL (T:Txt c K mg):zdX P w K mg base c:=znV T
theorem zoE (T:Txt c K mg):zcM P w K mg base c:=zks T (zjL T)
theorem zih (T:Txt c K mg):zem P w K mg base c:=zoF T (zoE T)
theorem zgs (T:Txt c K mg):zb8 P w K mg base c:=zmQ T
theorem zhP (T:Txt c K mg):zb5 P w K mg base c:=zlZ T (zgs T) (zb4 T)
theorem zjJ (T:Txt c K mg):zc5 P w K mg base c:=zlD T (zhP T)
theorem znG (T:Txt c K mg):zdD P w K mg base c:=zoq T (zhP T)
theorem zng (T:Txt c K mg):zd6 P w K mg base c:=zhY T (zgs T) (zb4 T)
theorem zjK (T:Txt c K mg):zdw P w K mg base c:=zm7 T
theorem zlW (T:Txt c K mg):zcq P w K mg base c:=zi4 T (zjK T) (zb4 T)
theorem zjh (T:Txt c K mg):zc0 P w K mg base c:=znA T
theorem zmY (T:Txt c K mg):zdM P w K mg base c:=zlo T (zeq T)
theorem zii (T:Txt c K mg):zei P w K mg base c:=zkQ T
theorem zjI (T:Txt c K mg):zcQ P w K mg base c:=zlv T
theorem zkU (T:Txt c K mg):zdB P w K mg base c:=zmd T
theorem znc (T:Txt c K mg):zc3 P w K mg base c:=zjG T (zmY T) (zii T) (zjI T) (zkU T)
theorem zmb (T:Txt c K mg):zcz P w K mg base c:=zjR T (zlB T) (zmi T) (zjD T) (zhZ T) (zmj T) (zia T) (zih T) (zjJ T) (znG T) (zng T) (zlW T) (zjh T) (znc T)
theorem zlK (T:Txt c K mg):zdH P w K mg base c:=ziw T (zmb T)
theorem zls (T:Txt c K mg) {f:Addr} {fd:FuncData} (F:Fun K "law" "law" zbx f fd):FnOk P w K mg base (CXR P w) 10 f fd ["_law_script"] (spL K J0):=zkS T (zod T) (zjT T) (zlK T) (zha T) F
end
theorem walk {C:Addr} {l:PySem.W.OpenLaw} {q:Program} {loose:List Str} {XP:(Str→Option Value)→Heap→Prop} {YP:World→Heap→Prop} {d:DefRec} {K:Params→PySem.W.Frag} (hn:l.most=some 63) (hdf:d.params.defaults=[]) (hdn:d.name = "law")
    (hY:∀ (w:World) (h:Heap),YP w h→(K w.params).In h)
    (F:∀ (w:World) (mg:Str→Option Value) (h:Heap),(K w.params).In h→h.Ns mainGlobals mg→∃ c,@Txt (zbU C) c (K w.params) mg) :
    PySem.W.WalkO q loose XP YP l.row.toRowW d [] (fun f vs=>PySem.call f vs):=by
  letI:LamW:=zbU C
  refine L2.zjy (n:=63) (k:=10) (x:="_law_script") (CX:=fun w=>CXR l.prog w) (sp:=fun w=>spL (K w.params) J0) hn (by decide) hdf ⟨rfl,by decide,by decide⟩ hY (fun w mg fa h KX G hmg=>?_) (fun w H a ns hl _ hS=>⟨cln H,[.list (ns.map .int)],zcc H,.cons (.lst (zfv hS) (zfw ns)) .nil,ns,rfl,hl,fun f v G' H' _ r=>zb3 r.rd⟩) (fun w H s e s' z=>?_)
  · obtain⟨c,T⟩:=F w mg h KX G
    obtain⟨f,fd,Fn,hm⟩:=T.d_law;rw [hdn,hm] at hmg;cases hmg;have Fn':=Fn;obtain⟨oc,od,kV,doc,pm,an,cdv,ct,osl,rfl,lk,hcd⟩:=Fn.ex;exact⟨_,fun s u=>.of_eq rfl,fun base _ _=>zls T Fn'⟩
  · obtain⟨_,_,_,_,_,hf⟩:=z
    exact hf
end Law
namespace PySem.W.Fast
theorem tw10141073361852381422:True:=trivial
theorem tw10141662328328463762:True:=trivial
theorem tw10167037331082108007:True:=trivial
theorem tw10209112741193452605:True:=trivial
theorem tw10232318669734317210:True:=trivial
theorem tw10241632889832594217:True:=trivial
theorem tw10264212935671392313:True:=trivial
theorem tw1026838084437268027:True:=trivial
theorem tw10282703086852112854:True:=trivial
theorem tw10292241725724478495:True:=trivial
theorem tw10327287517689063875:True:=trivial
theorem tw10337443421851021875:True:=trivial
theorem tw10345433749653431519:True:=trivial
theorem tw10390977303741636259:True:=trivial
theorem tw10407603305140356447:True:=trivial
theorem tw10411012197921378752:True:=trivial
theorem tw1042072131535242524:True:=trivial
theorem tw1043054400924209979:True:=trivial
theorem tw10430706885353714421:True:=trivial
theorem tw10446497340012500727:True:=trivial
theorem tw10463474147016007394:True:=trivial
theorem tw10474140051236430659:True:=trivial
theorem tw10491069997539780803:True:=trivial
theorem tw10494382958963541667:True:=trivial
theorem tw10533485653016817531:True:=trivial
theorem tw10542822909648012156:True:=trivial
theorem tw10550816963546895757:True:=trivial
theorem tw10591193631775322199:True:=trivial
theorem tw10603591998511789503:True:=trivial
theorem tw10608309117251397927:True:=trivial
theorem tw10617943708250482251:True:=trivial
theorem tw10633633455055837394:True:=trivial
theorem tw10634833778756953093:True:=trivial
theorem tw10640458837159497615:True:=trivial
theorem tw10656358561591990220:True:=trivial
theorem tw1067529042461760592:True:=trivial
theorem tw10678453672451057984:True:=trivial
theorem tw10719166528611137927:True:=trivial
theorem tw10732706022137460095:True:=trivial
theorem tw10733292117484027207:True:=trivial
theorem tw10755521665763121809:True:=trivial
theorem tw10761991627507028879:True:=trivial
theorem tw10768184700554312026:True:=trivial
theorem tw10768429131664383952:True:=trivial
theorem tw10791933480758607791:True:=trivial
theorem tw10823098414720033623:True:=trivial
theorem tw10834401761531841413:True:=trivial
theorem tw10846475846557721718:True:=trivial
theorem tw10867191595360290211:True:=trivial
theorem tw10886273949038360255:True:=trivial
theorem tw10892732599570452600:True:=trivial
theorem tw10898171252491857254:True:=trivial
theorem tw10921357752844721733:True:=trivial
theorem tw10935284281294870402:True:=trivial
theorem tw10939619123235244085:True:=trivial
theorem tw10947342988236520155:True:=trivial
theorem tw10954905434240652830:True:=trivial
theorem tw10958408221550102531:True:=trivial
theorem tw10958574618030253652:True:=trivial
theorem tw1096417208793698483:True:=trivial
theorem tw10975417500356940820:True:=trivial
theorem tw10980929338263389751:True:=trivial
theorem tw10996156771687974609:True:=trivial
theorem tw11006378300963327921:True:=trivial
theorem tw11059040379822768452:True:=trivial
theorem tw11060627413378356215:True:=trivial
theorem tw11106478273422916716:True:=trivial
theorem tw11122292371185866046:True:=trivial
theorem tw11128440887219185440:True:=trivial
theorem tw11148606027308426823:True:=trivial
theorem tw11160219755499887499:True:=trivial
theorem tw11170847635908182811:True:=trivial
theorem tw11205932545415047327:True:=trivial
theorem tw1120597231408084413:True:=trivial
theorem tw11212195529420573285:True:=trivial
theorem tw11223813761212009247:True:=trivial
theorem tw11301282892273146111:True:=trivial
theorem tw11303847495083376341:True:=trivial
theorem tw1130792255156239774:True:=trivial
theorem tw11336794628453901780:True:=trivial
theorem tw11337626731268232603:True:=trivial
theorem tw11340377751569544435:True:=trivial
theorem tw1137896486289519192:True:=trivial
theorem tw11424881033085603043:True:=trivial
theorem tw11428468494513131688:True:=trivial
theorem tw11430120346983949742:True:=trivial
theorem tw11447897458768632033:True:=trivial
theorem tw11474229295104353333:True:=trivial
theorem tw11494342205337049488:True:=trivial
theorem tw11502287311080963620:True:=trivial
theorem tw11505141444308280493:True:=trivial
theorem tw11507791480416422371:True:=trivial
theorem tw11532361041271362053:True:=trivial
theorem tw11546757524966349819:True:=trivial
theorem tw11653815642328689772:True:=trivial
theorem tw11671376731146275801:True:=trivial
theorem tw11672312749218640939:True:=trivial
theorem tw11704090859596294967:True:=trivial
theorem tw11720104794622917198:True:=trivial
theorem tw11747280223045588654:True:=trivial
theorem tw11770490817849798105:True:=trivial
theorem tw11803660941353615607:True:=trivial
theorem tw11835306082512643126:True:=trivial
theorem tw11840491843239685316:True:=trivial
theorem tw11843463099566701486:True:=trivial
theorem tw1185891441955677299:True:=trivial
theorem tw11869290866136491027:True:=trivial
theorem tw11947086478114336173:True:=trivial
theorem tw11962888869745722130:True:=trivial
theorem tw11992756160506637699:True:=trivial
theorem tw11999272668629063787:True:=trivial
theorem tw12015976930661641645:True:=trivial
theorem tw12057109998946750130:True:=trivial
theorem tw12075349503246543522:True:=trivial
theorem tw12118167325002388819:True:=trivial
theorem tw12133392421368027682:True:=trivial
theorem tw12158181676626396248:True:=trivial
theorem tw12178965984508261488:True:=trivial
theorem tw12220460541359473426:True:=trivial
theorem tw12221418197912857023:True:=trivial
theorem tw12221720768265884513:True:=trivial
theorem tw12233487574122394800:True:=trivial
theorem tw12252845843386860421:True:=trivial
theorem tw12256052210096788853:True:=trivial
theorem tw12280436296383112240:True:=trivial
theorem tw12324886865979860341:True:=trivial
theorem tw1236628319444002118:True:=trivial
theorem tw12367488299774522042:True:=trivial
theorem tw12369078834462635523:True:=trivial
theorem tw12377040282902196514:True:=trivial
theorem tw12406167452676617629:True:=trivial
theorem tw12412900400991763946:True:=trivial
theorem tw12418014053483836693:True:=trivial
theorem tw12418941522640692393:True:=trivial
theorem tw12461309026563214763:True:=trivial
theorem tw12484014340902278733:True:=trivial
theorem tw12491334091563363056:True:=trivial
theorem tw12518983946431991149:True:=trivial
theorem tw12524369933703398078:True:=trivial
theorem tw1252616767731679323:True:=trivial
theorem tw12529368516699573067:True:=trivial
theorem tw12535016774778123061:True:=trivial
theorem tw12545916457942055938:True:=trivial
theorem tw12582418818030253653:True:=trivial
theorem tw12636543258745842137:True:=trivial
theorem tw12683248566171844304:True:=trivial
theorem tw12714643991799879261:True:=trivial
theorem tw12740781867359354731:True:=trivial
theorem tw12793281088510583379:True:=trivial
theorem tw128216472338386714:True:=trivial
theorem tw12879126063766028686:True:=trivial
theorem tw12887228863845839541:True:=trivial
theorem tw1290096764233218249:True:=trivial
theorem tw12914991139844331159:True:=trivial
theorem tw12925347483132534620:True:=trivial
theorem tw12927049582683142774:True:=trivial
theorem tw12934478344940402692:True:=trivial
theorem tw1299343464717364476:True:=trivial
theorem tw13010953609619066459:True:=trivial
theorem tw13021307578733498317:True:=trivial
theorem tw13034766666823606127:True:=trivial
theorem tw13052427464589709570:True:=trivial
theorem tw13067278987821871410:True:=trivial
theorem tw13084295955451975971:True:=trivial
theorem tw13100653346215629677:True:=trivial
theorem tw13126662369173880142:True:=trivial
theorem tw13218743696333292546:True:=trivial
theorem tw13245133462062214598:True:=trivial
theorem tw13281018270621555120:True:=trivial
theorem tw13287808152603416533:True:=trivial
theorem tw13296599978594276176:True:=trivial
theorem tw13300757567043291861:True:=trivial
theorem tw13306518815034255059:True:=trivial
theorem tw13310124575002090469:True:=trivial
theorem tw13317646292192497312:True:=trivial
theorem tw13320859033142624980:True:=trivial
theorem tw1334499178225622955:True:=trivial
theorem tw13359478344562502500:True:=trivial
theorem tw13397722717683752140:True:=trivial
theorem tw1342045935720700169:True:=trivial
theorem tw13437740682144666392:True:=trivial
theorem tw13452239668364865018:True:=trivial
theorem tw13464444379385819560:True:=trivial
theorem tw1346816589624481205:True:=trivial
theorem tw13473255083818082250:True:=trivial
theorem tw13525322265790059413:True:=trivial
theorem tw13530326998725910530:True:=trivial
theorem tw13569470203902440284:True:=trivial
theorem tw13597143468073815297:True:=trivial
theorem tw13669282886245724473:True:=trivial
theorem tw13673884740702964651:True:=trivial
theorem tw13684073803573768609:True:=trivial
theorem tw13689521654442116958:True:=trivial
theorem tw13698581417968396843:True:=trivial
theorem tw1370542977199700597:True:=trivial
theorem tw13754968573889392022:True:=trivial
theorem tw13766842252431179459:True:=trivial
theorem tw13792211737371283824:True:=trivial
theorem tw13835415030568530696:True:=trivial
theorem tw13852757232273312719:True:=trivial
theorem tw13854301805985549141:True:=trivial
theorem tw13861198994441753950:True:=trivial
theorem tw13870414068436406710:True:=trivial
theorem tw13879901347482264084:True:=trivial
theorem tw13922593259590240421:True:=trivial
theorem tw13923406676276569329:True:=trivial
theorem tw13940821405420941542:True:=trivial
theorem tw13947796103268205630:True:=trivial
theorem tw13953268520588628658:True:=trivial
theorem tw1395809630634140046:True:=trivial
theorem tw13994181666151938656:True:=trivial
theorem tw14039192138959567156:True:=trivial
theorem tw14050880258475755786:True:=trivial
theorem tw14124303441817567191:True:=trivial
theorem tw1413777691198889421:True:=trivial
theorem tw14139115043165584565:True:=trivial
theorem tw14144886580502243843:True:=trivial
theorem tw1416993332182627298:True:=trivial
theorem tw14184767166209534378:True:=trivial
theorem tw14217400744806627009:True:=trivial
theorem tw14233348073160568260:True:=trivial
theorem tw14242623330332097024:True:=trivial
theorem tw14314747065533933330:True:=trivial
theorem tw14330668240743096026:True:=trivial
theorem tw14339944633645469976:True:=trivial
theorem tw14357015290527218866:True:=trivial
theorem tw14359791776350931854:True:=trivial
theorem tw14366848073592896780:True:=trivial
theorem tw14388548256283523744:True:=trivial
theorem tw14390096873054310516:True:=trivial
theorem tw14413012871582472253:True:=trivial
theorem tw14452837586455661769:True:=trivial
theorem tw14483786002785772019:True:=trivial
theorem tw14539091877638543443:True:=trivial
theorem tw14562745440134819987:True:=trivial
theorem tw14575215207803696282:True:=trivial
theorem tw14577083388618205436:True:=trivial
theorem tw14578719404296330549:True:=trivial
theorem tw14581135825705294901:True:=trivial
theorem tw14582833077738603869:True:=trivial
theorem tw14614498703197166012:True:=trivial
theorem tw14616020757207118327:True:=trivial
theorem tw14652535495501433641:True:=trivial
theorem tw14677898969651895103:True:=trivial
theorem tw14690291727148730830:True:=trivial
theorem tw14696490282234196128:True:=trivial
theorem tw14697359621543276141:True:=trivial
theorem tw14715215639022463883:True:=trivial
theorem tw14718895000158685202:True:=trivial
theorem tw14797073976407849445:True:=trivial
theorem tw14817397350786111803:True:=trivial
theorem tw14918110649289885269:True:=trivial
theorem tw14924002605140148999:True:=trivial
theorem tw14942086877846304635:True:=trivial
theorem tw14942651065557011009:True:=trivial
theorem tw14976375664323665345:True:=trivial
theorem tw14986237238234421060:True:=trivial
theorem tw14989482223533345250:True:=trivial
theorem tw1499319736400740506:True:=trivial
theorem tw15007390055426496437:True:=trivial
theorem tw15034884141924791336:True:=trivial
theorem tw15042417121690742545:True:=trivial
theorem tw15048017936143852748:True:=trivial
theorem tw15114385454401380237:True:=trivial
theorem tw15122428754882049848:True:=trivial
theorem tw15135665826501877105:True:=trivial
theorem tw1514480359515871538:True:=trivial
theorem tw15160118509473140525:True:=trivial
theorem tw15180714242671549081:True:=trivial
theorem tw15210345208724203074:True:=trivial
theorem tw15217938232691795529:True:=trivial
theorem tw15223081507855023399:True:=trivial
theorem tw15236893739650087930:True:=trivial
theorem tw15237930337830277895:True:=trivial
theorem tw15255476209786577289:True:=trivial
theorem tw1528464336012158578:True:=trivial
theorem tw15334700241266720803:True:=trivial
theorem tw15418878289456769762:True:=trivial
theorem tw15459229355319096386:True:=trivial
theorem tw15501759642813531492:True:=trivial
theorem tw15515789773816982217:True:=trivial
theorem tw15526269585869213300:True:=trivial
theorem tw155453798091078284:True:=trivial
theorem tw15548019263849396872:True:=trivial
theorem tw15563944285769167625:True:=trivial
theorem tw15585937030878226721:True:=trivial
theorem tw15603333261298048506:True:=trivial
theorem tw15607382094856524818:True:=trivial
theorem tw15634899032131609040:True:=trivial
theorem tw15646643425173778389:True:=trivial
theorem tw15660548251488174607:True:=trivial
theorem tw15660912009791469935:True:=trivial
theorem tw15667083887722837989:True:=trivial
theorem tw1570308244766825298:True:=trivial
theorem tw15709440087423935991:True:=trivial
theorem tw15756892722435225932:True:=trivial
theorem tw15764022244117250602:True:=trivial
theorem tw15772284141954298710:True:=trivial
theorem tw15773863463142988381:True:=trivial
theorem tw15817084350532090396:True:=trivial
theorem tw15823785549703190474:True:=trivial
theorem tw15830648233988176355:True:=trivial
theorem tw15845024005206673882:True:=trivial
theorem tw15872756060774499941:True:=trivial
theorem tw15873342759809405728:True:=trivial
theorem tw1587798478160062849:True:=trivial
theorem tw15928947198344950166:True:=trivial
theorem tw15948740487882563238:True:=trivial
theorem tw15954268958942741538:True:=trivial
theorem tw15963305981356129934:True:=trivial
theorem tw15986848655378665488:True:=trivial
theorem tw16013275692583011585:True:=trivial
theorem tw16035731268635714896:True:=trivial
theorem tw160370272753631948:True:=trivial
theorem tw16039159579356510197:True:=trivial
theorem tw1606262051315370671:True:=trivial
theorem tw16080152831120318690:True:=trivial
theorem tw16154928059406921641:True:=trivial
theorem tw16156212692091629693:True:=trivial
theorem tw16161055472425956208:True:=trivial
theorem tw16166207452472274941:True:=trivial
theorem tw16171657163338205833:True:=trivial
theorem tw16174191107052145771:True:=trivial
theorem tw16221065152406517335:True:=trivial
theorem tw16250186574722606678:True:=trivial
theorem tw16255222247212490821:True:=trivial
theorem tw16268144327503586548:True:=trivial
theorem tw16268397722364618430:True:=trivial
theorem tw16282634407208758749:True:=trivial
theorem tw1629246490447729806:True:=trivial
theorem tw16303637977260911885:True:=trivial
theorem tw16323957701694192281:True:=trivial
theorem tw16347846890648540556:True:=trivial
theorem tw16359807986333378892:True:=trivial
theorem tw16402618925284019904:True:=trivial
theorem tw1640583592480105515:True:=trivial
theorem tw16406059719358013552:True:=trivial
theorem tw16420574255852536602:True:=trivial
theorem tw164413646755531173:True:=trivial
theorem tw1645320260483578180:True:=trivial
theorem tw16473112983698980267:True:=trivial
theorem tw16480867607554938111:True:=trivial
theorem tw16498135779675245489:True:=trivial
theorem tw16509342706240867362:True:=trivial
theorem tw16530580544018518756:True:=trivial
theorem tw16580157538166883082:True:=trivial
theorem tw16610391659024258475:True:=trivial
theorem tw16617666975353609881:True:=trivial
theorem tw16682114462943539246:True:=trivial
theorem tw1669499649436987754:True:=trivial
theorem tw16707825609046354196:True:=trivial
theorem tw16730768166115845068:True:=trivial
theorem tw16746781576345142726:True:=trivial
theorem tw16752440670210911751:True:=trivial
theorem tw16760031171399855693:True:=trivial
theorem tw16778810673642318770:True:=trivial
theorem tw16783516576970121904:True:=trivial
theorem tw16803690887202891777:True:=trivial
theorem tw16808090851805799826:True:=trivial
theorem tw16810405490723690849:True:=trivial
theorem tw16820894054110505171:True:=trivial
theorem tw16863105838682733973:True:=trivial
theorem tw16875174803402422679:True:=trivial
theorem tw16890689805241282220:True:=trivial
theorem tw16901031670368035436:True:=trivial
theorem tw16917821812183072059:True:=trivial
theorem tw16921050011348343916:True:=trivial
theorem tw16925212741609738362:True:=trivial
theorem tw17004966710148762936:True:=trivial
theorem tw17014540677831335306:True:=trivial
theorem tw17019934128310761508:True:=trivial
theorem tw17041716905761305178:True:=trivial
theorem tw17074862378634693939:True:=trivial
theorem tw17092838071951973387:True:=trivial
theorem tw17132541275308839287:True:=trivial
theorem tw17142200798060194446:True:=trivial
theorem tw17165456743945529019:True:=trivial
theorem tw17167032659253529540:True:=trivial
theorem tw17177689952410336504:True:=trivial
theorem tw17185727550719668911:True:=trivial
theorem tw17193118720872919154:True:=trivial
theorem tw17222697670220324264:True:=trivial
theorem tw17229065133240436955:True:=trivial
theorem tw17248826551523555028:True:=trivial
theorem tw17288430112997970938:True:=trivial
theorem tw17361475718236754066:True:=trivial
theorem tw17376755615123804850:True:=trivial
theorem tw17382198073868697040:True:=trivial
theorem tw1741091363109068140:True:=trivial
theorem tw17412199162539337748:True:=trivial
theorem tw17426298692539297831:True:=trivial
theorem tw17462607656735264565:True:=trivial
theorem tw17500928036198938537:True:=trivial
theorem tw17513559107086160000:True:=trivial
theorem tw17516977673598356350:True:=trivial
theorem tw17534028054022198191:True:=trivial
theorem tw17548362626033956266:True:=trivial
theorem tw17550878088363297002:True:=trivial
theorem tw17578512251043879742:True:=trivial
theorem tw1759062124895322487:True:=trivial
theorem tw17602226443710719389:True:=trivial
theorem tw1760449024443384469:True:=trivial
theorem tw17607869600873567887:True:=trivial
theorem tw17610455760065475704:True:=trivial
theorem tw17622976285260628730:True:=trivial
theorem tw17636235185010261016:True:=trivial
theorem tw17661353469973270949:True:=trivial
theorem tw17661941485478381102:True:=trivial
theorem tw17722768585508204110:True:=trivial
theorem tw17726068379632621057:True:=trivial
theorem tw1773018561996254297:True:=trivial
theorem tw17810603906522628816:True:=trivial
theorem tw1787629185038292048:True:=trivial
theorem tw17906065912496920774:True:=trivial
theorem tw17907899399262994620:True:=trivial
theorem tw17920514232723833069:True:=trivial
theorem tw17965074920800722847:True:=trivial
theorem tw17995883086430343424:True:=trivial
theorem tw17997127392026300590:True:=trivial
theorem tw18027260442401371409:True:=trivial
theorem tw18054402242095113688:True:=trivial
theorem tw18061008762566939046:True:=trivial
theorem tw18062544388381790569:True:=trivial
theorem tw18084265517258109886:True:=trivial
theorem tw1809132593672109781:True:=trivial
theorem tw18091778932310009015:True:=trivial
theorem tw18098552656789759630:True:=trivial
theorem tw18133859760171988714:True:=trivial
theorem tw18151078768329670042:True:=trivial
theorem tw1817700626260757321:True:=trivial
theorem tw18194164553504691798:True:=trivial
theorem tw18259704730303934462:True:=trivial
theorem tw18267375959546636469:True:=trivial
theorem tw18332243367978069917:True:=trivial
theorem tw18344145799940694233:True:=trivial
theorem tw18377251964051515483:True:=trivial
theorem tw18386813170679896709:True:=trivial
theorem tw1840294435525352853:True:=trivial
theorem tw1842122891310215023:True:=trivial
theorem tw1842876191689304920:True:=trivial
theorem tw1843494007387793497:True:=trivial
theorem tw18437305511252538197:True:=trivial
theorem tw18438923729497623655:True:=trivial
theorem tw18442655623400376017:True:=trivial
theorem tw1860627016010201678:True:=trivial
theorem tw1863002842533619784:True:=trivial
theorem tw1886066646924362487:True:=trivial
theorem tw1906614114862747996:True:=trivial
theorem tw1909715350186524676:True:=trivial
theorem tw1931196073539251821:True:=trivial
theorem tw1948776785694951603:True:=trivial
theorem tw1995356833822379264:True:=trivial
theorem tw2013922392214866177:True:=trivial
theorem tw2018032708054651924:True:=trivial
theorem tw2056366811983682277:True:=trivial
theorem tw206260162855818819:True:=trivial
theorem tw2065406298892296707:True:=trivial
theorem tw2068850746027787728:True:=trivial
theorem tw207485400444754865:True:=trivial
theorem tw2096156804032147490:True:=trivial
theorem tw2103807448270402284:True:=trivial
theorem tw2120491006834045083:True:=trivial
theorem tw2129719580379304995:True:=trivial
theorem tw2143817848136823828:True:=trivial
theorem tw2159159432634734094:True:=trivial
theorem tw2168392874422651593:True:=trivial
theorem tw2185291257143914624:True:=trivial
theorem tw2220363497665576138:True:=trivial
theorem tw2230303630953718997:True:=trivial
theorem tw2242490427174815430:True:=trivial
theorem tw2263457464957249045:True:=trivial
theorem tw2321768884582066571:True:=trivial
theorem tw2331273239652045178:True:=trivial
theorem tw2336011545834651736:True:=trivial
theorem tw2395604154882617879:True:=trivial
theorem tw2403391195524682781:True:=trivial
theorem tw2409152065753768504:True:=trivial
theorem tw2432232842310225702:True:=trivial
theorem tw2446856634081524704:True:=trivial
theorem tw2474470148379666709:True:=trivial
theorem tw2494861065202695082:True:=trivial
theorem tw2495912565386739752:True:=trivial
theorem tw2519043693333411864:True:=trivial
theorem tw2543658432986200968:True:=trivial
theorem tw2618223336911769122:True:=trivial
theorem tw2655635977590807923:True:=trivial
theorem tw2667856339539146453:True:=trivial
theorem tw2677318129931544123:True:=trivial
theorem tw2686722267235050272:True:=trivial
theorem tw2686734530729061079:True:=trivial
theorem tw2687826568837155758:True:=trivial
theorem tw2773490455786907629:True:=trivial
theorem tw2806129259748753241:True:=trivial
theorem tw2811600398494634004:True:=trivial
theorem tw288047215281745897:True:=trivial
theorem tw2902937181575024444:True:=trivial
theorem tw2912104409369529151:True:=trivial
theorem tw2915451544008669971:True:=trivial
theorem tw2953532589549348922:True:=trivial
theorem tw2959718093628711999:True:=trivial
theorem tw2963283012271028757:True:=trivial
theorem tw3011159135880374135:True:=trivial
theorem tw3023211826413836030:True:=trivial
theorem tw302734322925784783:True:=trivial
theorem tw3062428677030606260:True:=trivial
theorem tw3067774810978853978:True:=trivial
theorem tw3090777206649665695:True:=trivial
theorem tw309612097271918922:True:=trivial
theorem tw31154420913009124:True:=trivial
theorem tw3135348961263554609:True:=trivial
theorem tw3144344393721082165:True:=trivial
theorem tw3167354277902887553:True:=trivial
theorem tw3181292407710876839:True:=trivial
theorem tw3205641234919980768:True:=trivial
theorem tw3209974011532655751:True:=trivial
theorem tw3225297930616894098:True:=trivial
theorem tw3229274259825770998:True:=trivial
theorem tw323749956826742350:True:=trivial
theorem tw3239752912163049459:True:=trivial
theorem tw3244525923459562223:True:=trivial
theorem tw3252671733886146932:True:=trivial
theorem tw3253203292141288609:True:=trivial
theorem tw325477754593583392:True:=trivial
theorem tw3261946683999687434:True:=trivial
theorem tw328501860305674425:True:=trivial
theorem tw3314070727116191592:True:=trivial
theorem tw3318946350252627984:True:=trivial
theorem tw3327944219180961410:True:=trivial
theorem tw3331937966180758800:True:=trivial
theorem tw3346606067455844454:True:=trivial
theorem tw3358792044386746796:True:=trivial
theorem tw3394627538749396548:True:=trivial
theorem tw340295657439998100:True:=trivial
theorem tw3421133544672286627:True:=trivial
theorem tw346019224296326897:True:=trivial
theorem tw3498574210941408948:True:=trivial
theorem tw3513396404822455091:True:=trivial
theorem tw3513664416596304107:True:=trivial
theorem tw3541656284094039817:True:=trivial
theorem tw355962021006975350:True:=trivial
theorem tw3615908117073755973:True:=trivial
theorem tw3636043597828997692:True:=trivial
theorem tw3682368218981591178:True:=trivial
theorem tw3750310868465794135:True:=trivial
theorem tw3751834096414236167:True:=trivial
theorem tw3799918837807575840:True:=trivial
theorem tw3808354882397992873:True:=trivial
theorem tw3812972825114821833:True:=trivial
theorem tw3826658629162614875:True:=trivial
theorem tw3835117253043117290:True:=trivial
theorem tw3882138531286548279:True:=trivial
theorem tw3915806738605547133:True:=trivial
theorem tw4008975076273135662:True:=trivial
theorem tw4021530580251465823:True:=trivial
theorem tw402503888122464620:True:=trivial
theorem tw4047731182935901771:True:=trivial
theorem tw4062598122859412213:True:=trivial
theorem tw4093634602222271880:True:=trivial
theorem tw4111462737859416894:True:=trivial
theorem tw4131126892574018772:True:=trivial
theorem tw4150421885729759485:True:=trivial
theorem tw418096265691394134:True:=trivial
theorem tw42267309902644450:True:=trivial
theorem tw4243439785201972928:True:=trivial
theorem tw4301441205716401469:True:=trivial
theorem tw4332414531928819528:True:=trivial
theorem tw4345072132727114341:True:=trivial
theorem tw4346334070266547957:True:=trivial
theorem tw4351746177417323182:True:=trivial
theorem tw4367099551899252940:True:=trivial
theorem tw4368299266015117594:True:=trivial
theorem tw4433012718486020883:True:=trivial
theorem tw4436886558165283242:True:=trivial
theorem tw4489690508383351834:True:=trivial
theorem tw450960201878900764:True:=trivial
theorem tw453400884684904031:True:=trivial
theorem tw4560291245812323868:True:=trivial
theorem tw4581005790923909353:True:=trivial
theorem tw4672853032459644335:True:=trivial
theorem tw4697424048927464243:True:=trivial
theorem tw4697463419817539811:True:=trivial
theorem tw4711458877642871545:True:=trivial
theorem tw4754136544873406190:True:=trivial
theorem tw4777671752674912297:True:=trivial
theorem tw480700538549200795:True:=trivial
theorem tw4821263813249527976:True:=trivial
theorem tw4849395702081646409:True:=trivial
theorem tw4906809287263256882:True:=trivial
theorem tw4916111345356533316:True:=trivial
theorem tw4971830216322296549:True:=trivial
theorem tw5023197339997052502:True:=trivial
theorem tw5041193677084372199:True:=trivial
theorem tw509032007624387919:True:=trivial
theorem tw5094267977740428737:True:=trivial
theorem tw5152363120899333252:True:=trivial
theorem tw5171468962647347956:True:=trivial
theorem tw5182144469463546319:True:=trivial
theorem tw5187801874688345250:True:=trivial
theorem tw5217541272297737198:True:=trivial
theorem tw5260969383948275779:True:=trivial
theorem tw5274287099836785984:True:=trivial
theorem tw5309535823117170303:True:=trivial
theorem tw5310285241775072541:True:=trivial
theorem tw5322162901436228932:True:=trivial
theorem tw5358714732173479293:True:=trivial
theorem tw5368846098749569625:True:=trivial
theorem tw5424170378005398999:True:=trivial
theorem tw5442783985881900660:True:=trivial
theorem tw5443453012796422860:True:=trivial
theorem tw5468206807565842270:True:=trivial
theorem tw5485670152142054244:True:=trivial
theorem tw5495381323346282152:True:=trivial
theorem tw5500047950493325239:True:=trivial
theorem tw5528988258179136907:True:=trivial
theorem tw5538454128417612845:True:=trivial
theorem tw5549902722193498269:True:=trivial
theorem tw5557921488039224442:True:=trivial
theorem tw5599225359623950513:True:=trivial
theorem tw5661626206236090487:True:=trivial
theorem tw5672326323997666439:True:=trivial
theorem tw5754842935989646193:True:=trivial
theorem tw5759171239296566233:True:=trivial
theorem tw583146119265000347:True:=trivial
theorem tw5843663866360641292:True:=trivial
theorem tw5886777068545181810:True:=trivial
theorem tw5896393282908976319:True:=trivial
theorem tw5927930549001084279:True:=trivial
theorem tw5930558345345650184:True:=trivial
theorem tw594927801713979955:True:=trivial
theorem tw5966384784985306491:True:=trivial
theorem tw5976260145942494999:True:=trivial
theorem tw5993401874924952863:True:=trivial
theorem tw6002004384540092640:True:=trivial
theorem tw6018661141819533174:True:=trivial
theorem tw6030032228999226120:True:=trivial
theorem tw6055188639867317805:True:=trivial
theorem tw6063998991730507588:True:=trivial
theorem tw6064657024660990065:True:=trivial
theorem tw6104841154834361744:True:=trivial
theorem tw6124109228637048890:True:=trivial
theorem tw6141759496843416297:True:=trivial
theorem tw6146704825155027638:True:=trivial
theorem tw6174534984983191364:True:=trivial
theorem tw6178892175602030868:True:=trivial
theorem tw6201713889060851635:True:=trivial
theorem tw6206813182485813418:True:=trivial
theorem tw6234767963686002908:True:=trivial
theorem tw6300092649863634111:True:=trivial
theorem tw6312280229218873622:True:=trivial
theorem tw6335477982026431803:True:=trivial
theorem tw6353434538038154599:True:=trivial
theorem tw6363561470236264730:True:=trivial
theorem tw6377311134859385393:True:=trivial
theorem tw638702686188380803:True:=trivial
theorem tw6396540527393303964:True:=trivial
theorem tw6408486767492579270:True:=trivial
theorem tw6415016659607675011:True:=trivial
theorem tw6418038354381824958:True:=trivial
theorem tw64369320434875278:True:=trivial
theorem tw6437791757307338779:True:=trivial
theorem tw64380580579203005:True:=trivial
theorem tw6448232862760144151:True:=trivial
theorem tw6458611712809147731:True:=trivial
theorem tw6476588248733626307:True:=trivial
theorem tw653367795058029348:True:=trivial
theorem tw6550921285548675571:True:=trivial
theorem tw6559876295190119181:True:=trivial
theorem tw663485222585239521:True:=trivial
theorem tw6643236084243961910:True:=trivial
theorem tw6654327911962528846:True:=trivial
theorem tw667358382412105499:True:=trivial
theorem tw6686377170904001776:True:=trivial
theorem tw6698598886442897854:True:=trivial
theorem tw6749154173067206322:True:=trivial
theorem tw6752719494720195627:True:=trivial
theorem tw6755113158958806595:True:=trivial
theorem tw6763205820512824352:True:=trivial
theorem tw6764991199627006672:True:=trivial
theorem tw6786227135285123898:True:=trivial
theorem tw6802334587970437135:True:=trivial
theorem tw6808082736325238874:True:=trivial
theorem tw6819344961645577036:True:=trivial
theorem tw6855326858641421468:True:=trivial
theorem tw6857422677061652165:True:=trivial
theorem tw6862878078425312286:True:=trivial
theorem tw6866396987377686119:True:=trivial
theorem tw6868477437770568670:True:=trivial
theorem tw6874543944377887127:True:=trivial
theorem tw6940189914535511683:True:=trivial
theorem tw6951725922454798754:True:=trivial
theorem tw6954782409565674879:True:=trivial
theorem tw6960811381585176969:True:=trivial
theorem tw6965177795902835520:True:=trivial
theorem tw6986826964433148150:True:=trivial
theorem tw7004327041662181967:True:=trivial
theorem tw7016596990168371196:True:=trivial
theorem tw7030266334035189887:True:=trivial
theorem tw7047233011849052933:True:=trivial
theorem tw7067483288844345899:True:=trivial
theorem tw7079122975202861646:True:=trivial
theorem tw7110964187276662304:True:=trivial
theorem tw7128059605660031326:True:=trivial
theorem tw7175118255698917127:True:=trivial
theorem tw7175249291560325982:True:=trivial
theorem tw7219803002316114101:True:=trivial
theorem tw7263947470482209555:True:=trivial
theorem tw7294246413942270879:True:=trivial
theorem tw7299127239984468606:True:=trivial
theorem tw7303314350627469938:True:=trivial
theorem tw7339775466681074889:True:=trivial
theorem tw7347247267823709854:True:=trivial
theorem tw7357239973646020956:True:=trivial
theorem tw738621155403001413:True:=trivial
theorem tw7393204350566677165:True:=trivial
theorem tw740524850648911025:True:=trivial
theorem tw7407263655249477876:True:=trivial
theorem tw7421463477704063648:True:=trivial
theorem tw7422207883165305769:True:=trivial
theorem tw7470211167652379516:True:=trivial
theorem tw7475692785487524872:True:=trivial
theorem tw7505518154341623529:True:=trivial
theorem tw7508416235767887780:True:=trivial
theorem tw7543566214247473330:True:=trivial
theorem tw7546258806496044486:True:=trivial
theorem tw7557402410837198740:True:=trivial
theorem tw7564335032117339154:True:=trivial
theorem tw7591586513519912797:True:=trivial
theorem tw7600966700092025364:True:=trivial
theorem tw7640132234130819195:True:=trivial
theorem tw7665699224039940041:True:=trivial
theorem tw7669790433442358978:True:=trivial
theorem tw7681187432634356231:True:=trivial
theorem tw7685811418260787669:True:=trivial
theorem tw7691589960017856061:True:=trivial
theorem tw769979791904337360:True:=trivial
theorem tw7734879760632178200:True:=trivial
theorem tw7765497167703706590:True:=trivial
theorem tw7770963336702469832:True:=trivial
theorem tw777858370024105023:True:=trivial
theorem tw7797582115498543703:True:=trivial
theorem tw7821738520104137603:True:=trivial
theorem tw7862672668429299740:True:=trivial
theorem tw786461835832614064:True:=trivial
theorem tw7870460180944192747:True:=trivial
theorem tw7907869094952361477:True:=trivial
theorem tw7911011726942838817:True:=trivial
theorem tw791623217889414018:True:=trivial
theorem tw7922271057504948531:True:=trivial
theorem tw7947078920630013147:True:=trivial
theorem tw7949199898042152628:True:=trivial
theorem tw7952536187208592705:True:=trivial
theorem tw7952634150187510579:True:=trivial
theorem tw7953068434287457219:True:=trivial
theorem tw7959957885952080176:True:=trivial
theorem tw7976319070073554983:True:=trivial
theorem tw804155634960241446:True:=trivial
theorem tw808282997008850893:True:=trivial
theorem tw8130054213454292228:True:=trivial
theorem tw8142394815027270184:True:=trivial
theorem tw8144444772751417893:True:=trivial
theorem tw8175421472948277247:True:=trivial
theorem tw8177091216656395028:True:=trivial
theorem tw8203837560450789839:True:=trivial
theorem tw8258414472035592338:True:=trivial
theorem tw8320372503994695768:True:=trivial
theorem tw8342523217204745534:True:=trivial
theorem tw8344229423484819251:True:=trivial
theorem tw8353929126652432104:True:=trivial
theorem tw8363818868952894541:True:=trivial
theorem tw837440958278954922:True:=trivial
theorem tw8374439362288556079:True:=trivial
theorem tw843801557284793365:True:=trivial
theorem tw8441397450353046078:True:=trivial
theorem tw8452065181549932277:True:=trivial
theorem tw8478466739082857336:True:=trivial
theorem tw847905665596245784:True:=trivial
theorem tw8482305224080440624:True:=trivial
theorem tw8488478473754619795:True:=trivial
theorem tw8516782985891664032:True:=trivial
theorem tw853560723404737032:True:=trivial
theorem tw8538007014386864514:True:=trivial
theorem tw8609271382477684264:True:=trivial
theorem tw8635520425698009107:True:=trivial
theorem tw8644555145869303121:True:=trivial
theorem tw8667524653032417990:True:=trivial
theorem tw8696112529747850514:True:=trivial
theorem tw8800799425936163453:True:=trivial
theorem tw8810726581696851178:True:=trivial
theorem tw8812024980957600144:True:=trivial
theorem tw882949761500750389:True:=trivial
theorem tw8829930245918648341:True:=trivial
theorem tw8888470773148931719:True:=trivial
theorem tw8904613270283557395:True:=trivial
theorem tw8942162409853114904:True:=trivial
theorem tw8945530638289362329:True:=trivial
theorem tw8961629572705927296:True:=trivial
theorem tw8963151283869631603:True:=trivial
theorem tw8963627980853018510:True:=trivial
theorem tw8964004515877451120:True:=trivial
theorem tw8975120718674502335:True:=trivial
theorem tw8990493026596038440:True:=trivial
theorem tw8995874225435017330:True:=trivial
theorem tw9009253816965766435:True:=trivial
theorem tw9023545123525679157:True:=trivial
theorem tw9062269033501936722:True:=trivial
theorem tw9077811282874865229:True:=trivial
theorem tw9079418648958844085:True:=trivial
theorem tw9096110165603700477:True:=trivial
theorem tw9146071997332135145:True:=trivial
theorem tw9167340399011979214:True:=trivial
theorem tw9181492856970419227:True:=trivial
theorem tw9186038621373136864:True:=trivial
theorem tw9201379857288316164:True:=trivial
theorem tw9203263355523300955:True:=trivial
theorem tw9222011534887128334:True:=trivial
theorem tw9232565121847878108:True:=trivial
theorem tw9247463335762731141:True:=trivial
theorem tw9288267604503689980:True:=trivial
theorem tw9303842648160657604:True:=trivial
theorem tw9304526356565478701:True:=trivial
theorem tw9314266366675291139:True:=trivial
theorem tw9340593793396215593:True:=trivial
theorem tw9347179158615973421:True:=trivial
theorem tw936721019441231543:True:=trivial
theorem tw936782611321566879:True:=trivial
theorem tw9390879923216767973:True:=trivial
theorem tw9413393656200371544:True:=trivial
theorem tw9418979742622488074:True:=trivial
theorem tw9427202881958944029:True:=trivial
theorem tw9433091128533484580:True:=trivial
theorem tw9442952239071256672:True:=trivial
theorem tw944966161625379830:True:=trivial
theorem tw9451832074086909475:True:=trivial
theorem tw9452547063175390347:True:=trivial
theorem tw9455434193226873878:True:=trivial
theorem tw9457424736178440973:True:=trivial
theorem tw9480235729544819040:True:=trivial
theorem tw9484186911477108129:True:=trivial
theorem tw9517173743259810160:True:=trivial
theorem tw9558201603076057350:True:=trivial
theorem tw9571495291027624414:True:=trivial
theorem tw9598630945957800036:True:=trivial
theorem tw9600225306046952310:True:=trivial
theorem tw9602474258825472877:True:=trivial
theorem tw961715109524212459:True:=trivial
theorem tw9629462875789160092:True:=trivial
theorem tw9633816481497765034:True:=trivial
theorem tw9705664874661517567:True:=trivial
theorem tw9710457832970877613:True:=trivial
theorem tw9712331935798357415:True:=trivial
theorem tw9738542877212738975:True:=trivial
theorem tw9760374117824676518:True:=trivial
theorem tw9778801616712919198:True:=trivial
theorem tw9842195307564498221:True:=trivial
theorem tw9891952404817061090:True:=trivial
theorem tw9904828098538518467:True:=trivial
theorem tw991836196481772090:True:=trivial
theorem tw9927453881636639290:True:=trivial
theorem tw999930265118988511:True:=trivial
end PySem.W.Fast
theorem PySem.W.Fast.te14696490282234196128:True:=trivial
abbrev PySem.W.Fast.tw3806749520260586910:PySem.Program:=PySem.Challenge.pw_chairclans_k39_desk_shows
theorem PySem.W.Fast.te3806749520260586910:PySem.Challenge.pw_chairclans_k39_desk_shows=PySem.W.Fast.tw3806749520260586910:=rfl
open PySem PySem.W PyProof.Rows
set_option maxRecDepth 100000 in
set_option maxHeartbeats 0 in
theorem PySem.Challenge.cw_chairclans_k39_desk_shows_holds : PySem.Challenge.rw_chairclans_k39_desk_shows.Holds := by
  w_on;o_law;k_head;(case hw=>w_witness2)
  k_fill
  refine' Law.walk (l:=PySem.Challenge.rw_chairclans_k39_desk_shows) rfl rfl rfl (fun w h Y=>PySem.W.km_in_of Y) ?F
  case F=>
    intro w mg h KX G;refine' Law.zj9 KX G ?D ?m_NoRatio ?e_NoRatio ?m_NoText ?e_NoText ?m_NoSpell ?e_NoSpell ?m_NoRow ?e_NoRow ?m_NoBounds ?e_NoBounds ?m_NoRule ?e_NoRule ?m_NoLine ?e_NoLine ?m_NoNumber ?e_NoNumber ?m_NoName ?e_NoName ?m_Known ?e_Known ?m_TooMany ?e_TooMany ?m_Desk ?f0I ?l0I ?c0I ?k0I ?g0I ?f0S ?l0S ?c0S ?k0S ?g0S ?y1 ?y2 ?y3 ?y4 ?y5 ?y6 ?na_names ?na_weights ?na_bounds ?na_spells ?na_rules ?na_row ?m_A ?q_A ?b_A0 ?b_A1 ?b_A2 ?b_A3 ?b_A4 ?b_A5 ?b_A6 ?b_A7 ?b_A8 ?b_A9 ?b_A10 ?m_LEAST_BOUND ?qt0 ?m_MOST_BOUND ?qt1 ?m_MOST_SPELLS ?m_MOST_CLANS ?m_MOST_TURNS ?m_FIGURES ?m_MOST_FIGURES ?m_LETTERS ?m_MOST_LETTERS ?m_LONGEST_NUMBER ?m_FORMS ?q_FORMS ?qt2 ?qt3 ?qt4 ?qt5 ?qt6 ?qt7 ?qt8 ?qt9 ?qt10 ?qt11 ?qt12 ?qt13 ?qt14 ?qt15 ?qt16 ?m_KINDS ?qt17 ?m_FIXED ?m_BARRED ?m_DONE ?m_FIRST_BOUNDS ?qt18 ?qt19 ?qt20 ?m_WORDS_OF_RULES ?q_WORDS_OF_RULES
    (case D=>constructor<;>first|(refine' Law.ziD KX G ?a ?l ?c ?k;(case a|l|c|k=>k_is))|exact PySem.W.mg_none_of KX G (by k_is))
    (case m_NoRatio=>k_is)
    (case e_NoRatio=>k_exc)
    (case m_NoText=>k_is)
    (case e_NoText=>k_exc)
    (case m_NoSpell=>k_is)
    (case e_NoSpell=>k_exc)
    (case m_NoRow=>k_is)
    (case e_NoRow=>k_exc)
    (case m_NoBounds=>k_is)
    (case e_NoBounds=>k_exc)
    (case m_NoRule=>k_is)
    (case e_NoRule=>k_exc)
    (case m_NoLine=>k_is)
    (case e_NoLine=>k_exc)
    (case m_NoNumber=>k_is)
    (case e_NoNumber=>k_exc)
    (case m_NoName=>k_is)
    (case e_NoName=>k_exc)
    (case m_Known=>k_is)
    (case e_Known=>k_exc)
    (case m_TooMany=>k_is)
    (case e_TooMany=>k_exc)
    (case m_Desk|f0I|l0I|c0I|k0I|g0I|f0S|l0S|c0S|k0S|g0S|y1|y2|y3|y4|y5|y6|na_names|na_weights|na_bounds|na_spells|na_rules|na_row|m_A|q_A|b_A0|b_A1|b_A2|b_A3|b_A4|b_A5|b_A6|b_A7|b_A8|b_A9|b_A10|m_LEAST_BOUND|qt0|m_MOST_BOUND|qt1|m_MOST_SPELLS|m_MOST_CLANS|m_MOST_TURNS|m_FIGURES|m_MOST_FIGURES|m_LETTERS|m_MOST_LETTERS|m_LONGEST_NUMBER|m_FORMS|q_FORMS|qt2|qt3|qt4|qt5|qt6|qt7|qt8|qt9|qt10|qt11|qt12|qt13|qt14|qt15|qt16|m_KINDS|qt17|m_FIXED|m_BARRED|m_DONE|m_FIRST_BOUNDS|qt18|qt19|qt20|m_WORDS_OF_RULES|q_WORDS_OF_RULES=>k_is)
