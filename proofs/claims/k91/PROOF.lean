import PyProof.Rows.All
import Wide.All
import OpenK.AllK
import Wide.FinOn
import PySem.Challenge.RW_haulbell_k91_blocks_written
import Lean
import PyProof.EqAt
import PyProof.EqKinds
import PyProof.TupleCall
import PyProof.EnumStmt
import PyProof.NeKinds
import PyProof.ExcAttrAll.ValueError
import PyProof.ExcInit
import PyProof.StationsW
import PyProof.NsDelKeeps
import PyProof.InstStoreFacts
import PyProof.ZipIter
import PyProof.IsiBase
import PyProof.AttrMiss
import KE.KDictOf
import KE.KDictList
import PyProof.InstEq
import PyProof.Rows.Range3
import PyProof.EnumMake
import PyProof.StrWalks
import PyProof.DictWalks
import PyProof.Rows.StrWeight2
import PyProof.StrCalls2
import PyProof.Rows.StrFacts2
import KE.KEqDict
import KE.KTab
import KE.KTabLook
import KE.KIntText
import PyProof.SliceStr
import PyProof.StrOps2
import KE.LcSums
open PySem.W renaming behindTheImports→ac
open PySem renaming wpAny_bind→ap,wpAny_pure→bd,wpAny_field→bi,wpAny_holding→bm,wpAny_truthy_bool→bn,starEach→bv,sizeLine→ce,wpAny_Call_Name_kw→ci
open List renaming length_map→cr,length_append→db,mem_of_getElem?→dl,length_take→dL,mem_cons_of_mem→f8,map_append→ge,length_singleton→gt,size_toArray→io,mem_append_right→jp,getElem?_map→le,length_drop→lf,append_assoc→li,getElem?_eq_getElem→lv,mem_cons_self→lw,mem_cons→mo
open Bool renaming and_eq_true→nb
open Option renaming map_eq_some_iff→ol
open Nat renaming lt_of_lt_of_le→pc,le_of_ble_eq_true→pi,ne_of_lt→re,le_refl→s0
open Int renaming toNat_natCast→ss,eq_ofNat_of_zero_le→sw
open List renaming replicate→sK,getElem?_eq_some_iff→tz
open PySem.Heap renaming get?_push_of_some→u8,lt_size→ul,get?_push_size→ut
set_option linter.all false
set_option maxRecDepth 100000
set_option Elab.async false
set_option compiler.extract_closed false
theorem My.kleA {a b k:Nat}(h:a<=k)(e:Nat.ble (b+1) a=true):b<=k-1:=Nat.le_sub_one_of_lt (pc (pi e) h)
theorem My.kleB {a b k:Nat}(h:a<=k)(e:Nat.ble b a=true):b<=k:=Nat.le_trans (pi e) h
set_option hygiene false
local macro_rules| `(tactic|sleep $n:num)=>`(tactic|((conv at h=>lhs;whnf);iterate $n (split at h;rotate_left;cases h)))
set_option hygiene true
local macro_rules|`(command|abbrev $i:declId $s:optDeclSig $v:declVal)=>`(command|noncomputable def $i:declId $s:optDeclSig $v:declVal)
local macro_rules|`(command|def $i:declId $b:bracketedBinder* :$t $v:declVal)=>`(command|theorem $i:declId $b:bracketedBinder* :$t $v:declVal)
local macro_rules|`(nofun)=>`(by first|exact My.kleA (by assumption) (by rfl)|exact My.kleB (by assumption) (by rfl)|lia|omega)
local macro_rules|`(tactic|omega)=>`(tactic|lia)
noncomputable abbrev My.pr:PySem.Program:=PySem.Challenge.rw_haulbell_k91_blocks_written.row.prog
open PySem PySem.W in
set_option maxHeartbeats 0 in
def My.Ep:PySem.Challenge.rw_haulbell_k91_blocks_written.wellSaid=true:=by
  rewrite [Fast.te9446332074065402090]
  kernel_rfl
namespace L2
open PySem PySem.Spec
abbrev inClass (s:Stmt)(j:Nat):Stmt:=match s with
  | .ClassDef _ _ _ body _ _ _ _ _ _ _=>body.getD j (.Pass ⟨0,0,0,0⟩)
  |_=>.Pass ⟨0,0,0,0⟩
abbrev pX (s:Stmt):Arguments:=match s with
  | .FunctionDef _ a _ _ _ _ _ _ _ _=>a
  |_=>{ posonlyargs:=[],args:=[],vararg:=none,kwonlyargs:=[],kw_defaults:=[],kwarg:=none,defaults:=[] }
abbrev qg (s:Stmt):List Stmt:=match s with
  | .FunctionDef _ _ b _ _ _ _ _ _ _=>b
  |_=>[]
abbrev mM (s:Stmt):Scope:=match s with
  | .FunctionDef _ _ _ _ _ _ sc _ _ _=>sc
  |_=>{ kind:=.function,names:=[],isGenerator:=false,isCoroutine:=false }
end L2
namespace My
open PySem L2 PySem.W
abbrev top (i:Nat):Stmt:=PySem.Challenge.pw_haulbell_k91_blocks_written.main.body.getD i (.Pass ⟨0,0,0,0⟩)
abbrev tq (i j:Nat):Stmt:=inClass (top i) j
/-- the top's run on a tree -/
abbrev jB (tb:String->Option Builtin)(p:Program)(w:World)(m:Nat)(ann:Option Value):Nat->SharedT->Thread->Option SharedT
  |0,_,_=>none
  |n+1,s,t=>match through t with
    |true=>some s
    |false=>match stepOk m ann t with
      |false=>none
      |true=>match stepT (denote tb) p w s t with
        |some r=>jB tb p w m ann n r.1 r.2
        |none=>none
def qV {tb:String->Option Builtin}{p:Program}{w:World}{m:Nat}{ann:Option Value}:∀ {n:Nat}{s s':SharedT}{t:Thread},jB tb p w m ann n s t=some s'->topRun tb p w m ann n s.abs t=some s'.abs
  |0,_,_,_,h=>by cases h
  |n+1,s,s',t,h=>by
    unfold jB at h;unfold topRun;cases a:through t
    · rw[a]at h;dsimp only at h⊢
      cases b:stepOk m ann t
      · rw[b]at h;cases h
      · rw[b]at h;dsimp only at h⊢
        cases c:stepT (denote tb) p w s t with
        |none=>rw[c]at h;cases h
        |some r=>rw[c]at h;rw[stepT_spec c];exact qV h
    · rw[a]at h;cases h;rfl
abbrev Dq:Nat->BT->List Obj->BT
  |_,t,[]=>t
  |n,t,o::os=>Dq (n+1) (t.ins n o) os
abbrev uX (P:Params):BT:=Dq 0 .nil (boot_heap P).objs.toList
abbrev E5 (P:Params)(os:OsState):SharedT:=⟨uX P,11,(boot_heap P).life,Array.mk [],boot_drawn,boot_toks,os⟩
def rO {p q:Program}{loose:List Str}{Xt:Shared->Bool}{α:Type}{Yf:Shared->α}{Ya:World->α}{N:Nat}(e:opening p=plainProg p.main.scope.names)(hN:Nat.ble 600 N=true)(f:∀ s,fenceModules? p s=some s)
    (h0:∀ P,absHeap (uX P) 11 (boot_heap P).life=boot_heap P) (h1:∀ P,((boot_heap P).isNs mainGlobals,(boot_heap P).objs.size,(boot_heap P).nsMap mainGlobals "__annotations__")=(true,11,some (.ref 6)))
    (run:∀ (w:World) (os:OsState),(jB treeTable p w 11 (some (.ref 6)) N (E5 w.params os) (topStub p)).map (λs=>(staticsOk (importedModules p.main.body) (boot_heap w.params) s.abs.heap&&namesBound p s.abs.heap&&gensDone s.abs&&laidKept (boot_heap w.params) s.abs.heap,
      openSeen q loose (importedModules p.main.body) Xt true s.abs,Yf s.abs))=some (true,openGood q loose,Ya w)):LeftO p q loose Xt Yf Ya N:=λw=>by
  obtain⟨⟨hp,gs,d,k,os⟩,e1,e2⟩:=ol.mp (boot_open e hN f w);obtain⟨rfl,rfl,rfl,rfl⟩:hp=boot_heap w.params/\gs=Array.mk []/\d=boot_drawn/\k=boot_toks:=by simpa using e2
  obtain⟨z1,z2,z3⟩:_/\_/\_:=by simpa only [Prod.mk.injEq] using h1 w.params
  obtain⟨s,r,l⟩:=ol.mp (run w os);obtain⟨l1,l2,l3⟩:_/\_/\_:=by simpa only [Prod.mk.injEq] using l
  have r1:=qV r;have a0:(E5 w.params os).abs=⟨boot_heap w.params,Array.mk [],boot_drawn,boot_toks,os⟩:=by
    show(⟨absHeap (uX w.params) 11 (boot_heap w.params).life,Array.mk [],boot_drawn,boot_toks,os⟩:Shared)=_;rw[h0]
  rw[a0]at r1;unfold openEnds;rw[e1];have t:topFrom treeTable p w N ⟨boot_heap w.params,Array.mk [],boot_drawn,boot_toks,os⟩=some s.abs:=by
    unfold topFrom;dsimp only;rw[z1,z2,z3,r1];show(match staticsOk (importedModules p.main.body) (boot_heap w.params) s.abs.heap&&namesBound p s.abs.heap&&gensDone s.abs&&laidKept (boot_heap w.params) s.abs.heap with|true=>some s.abs|false=>none)=some s.abs;rw[l1]
  show(topFrom treeTable p w N _).map _=_;rw[t];exact congrArg some (Prod.ext l2 l3)
abbrev E3:List Addr:=2::3::30::31::47::48::50::51::66::67::69::70::78::79::80::86::87::93::94::100::101::107::108::117::118::135::136::149::150::152::153::168::169::182::183::185::186::201::202::215::216::218::219::234::235::248::249::251::252::267::268::281::282::284::285::293::294::300::301::309::315::316::329::330::332::333::348::349::355::356::358::359::376::377::383::384::386::387::399::405::406::412::413::415::416::440::441::443::444::466::467::469::470::492::493::495::496::518::519::521::522::544::545::547::548::570::571::573::574::580::581::585::586::592::593::606::607::613::614::620::621::627::628::634::635::648::649::655::656::662::663::690::691::697::698::700::701::711::712::718::719::725::726::732::733::739::740::746::747::753::754::760::761::767::768::774::775::781::782::788::789::795::796::802::803::809::810::816::817::823::824::828::829::833::834::840::841::847::848::854::855::859::860::866::867::871::872::878::879::885::886::892::893::897::898::[]
abbrev FA:List Addr:=48::67::79::87::94::101::108::136::150::169::183::202::216::235::249::268::282::294::301::316::330::349::356::377::384::406::413::441::467::493::519::545::571::581::586::593::607::614::621::628::635::649::656::663::691::698::712::719::726::733::740::747::754::761::768::775::782::789::796::803::810::817::824::829::834::841::848::855::860::867::872::879::886::893::898::[]
abbrev Gk:List Addr:=[31,51,70,118,153,186,219,252,285,333,359,387,416,444,470,496,522,548,574,701]
abbrev runK (tb:String->Option Builtin)(p:Program)(w:World)(m:Nat)(ann:Option Value):Nat->SharedT->Thread->Option (SharedT×Thread)
  |0,s,t=>some (s,t)
  |n+1,s,t=>match through t with
    |true=>none
    |false=>match stepOk m ann t with
      |false=>none
      |true=>match stepT (denote tb) p w s t with
        |some r=>runK tb p w m ann n r.1 r.2
        |none=>none
def dZ {tb:String->Option Builtin}{p:Program}{w:World}{m:Nat}{ann:Option Value}{k:Nat}:∀ {n:Nat}{s:SharedT}{t:Thread}{r:SharedT×Thread},runK tb p w m ann n s t=some r->jB tb p w m ann (n+k) s t=jB tb p w m ann k r.1 r.2
  |0,s,t,r,h=>by
    rw[Nat.zero_add];cases h
    rfl
  |n+1,s,t,r,h=>by
    rw[Nat.succ_add];unfold runK at h;conv=>lhs;unfold jB
    cases a:through t
    · rw[a]at h;dsimp only at h⊢
      cases b:stepOk m ann t
      · rw[b]at h;cases h
      · rw[b]at h;dsimp only at h⊢
        cases c:stepT (denote tb) p w s t with
        |none=>rw[c]at h;cases h
        |some r=>rw[c]at h;exact dZ h
    · rw[a]at h;cases h
abbrev kT (x y:Str)(s:Stmt):Obj:=⟨.none,none,.func { name:=x,qualname:=y,params:=pX s,body:=.stmts (qg s),scope:=mM s,globals:=builtinsNs,closure:=[],defaults:=.none,kwdefaults:=.none },#[]⟩
abbrev bo (P:Params)(i:Nat):Obj:=(boot_heap P).objs.toList.getD i ⟨.none,none,.plain,#[]⟩
abbrev gj (p:Program):Env:={ scope:=p.main.scope,locals:=mainNs,globals:=mainNs,cells:=[],code:=.ref 13,frame:=some 14 }
abbrev Ge:Frame:=.ret (λx=>Sem.bind (match x with| .ok f=>Sem.pure f| .error e=>Sem.raise e) (λ_=>ret .none)) none false [] (.builtin "claim.caller" {}) default []
abbrev yk (p:Program)(X:List Stmt):Sem Fin:=Sem.bind (Sem.onRaise (execs X (gj p)) (leaving (gj p))) (λa=>Sem.pure (Fin.done a))
abbrev nZ (p:Program)(X:List Stmt)(q:Pos):Thread:=⟨yk p X,.body (ac p) (gj p),q,[Ge]⟩
def tK {tb:String->Option Builtin}{p:Program}(h:blockStart (ac p) (gj p)=Sem.pure ()):denote tb (.body (ac p) (gj p))=yk p (ac p):=by
  show Sem.bind (blockStart (ac p) (gj p)) (λ_=>yk p (ac p))=_;rw[h]
  rfl
abbrev o0:Obj:=⟨.type "tuple",none,.seq #[] 0,#[]⟩
abbrev oN:Obj:=⟨.none,none,.fields #[],#[]⟩
abbrev oL:List Str->Nat->List Value
  | [],_=>[]
  |x::r,t=>.str x t::oL r (t+1)
abbrev oS (l:List Str)(t:Nat):Obj:=⟨.type "tuple",none,.seq (Array.mk (oL l t)) 0,#[]⟩
abbrev GC (l:List (Int×Nat)):Array Value:=(l.flatMap λp=>[.int p.1 0,.int 0 0,.ref p.2]).toArray
abbrev GJ:List (Int×Nat):=[(1,20),(5,27),(7,40),(12,59),(19,78),(23,86),(25,93),(28,100),(31,107),(34,114),(36,128),(49,161),(62,194),(75,227),(86,260),(99,293),(101,300),(103,307),(120,341),(127,369),(135,397)]
abbrev G5:List (Int×Nat):=GJ++[(145,426),(152,452),(159,478),(166,504),(173,530),(180,556),(190,580),(197,585),(204,592),(206,599),(266,711),(279,718),(284,725),(298,732),(304,739),(312,746),(323,753),(325,760),(330,767),(336,774),(344,781),(352,788),(355,795),(361,802),(377,809),(395,816),(410,823),(422,828),(427,833),(433,840),(440,847),(452,854),(463,859),(467,866),(481,871),(485,878),(497,885),(506,892)]
abbrev oI (l c a:Nat):Obj:=⟨.none,none,.fields #[.int l 0,.int c 0,.ref a],#[]⟩
abbrev oK (x:Str)(t l r:Nat):Obj:=⟨.type "code",none,.fields #[.str x t,.str x (t+1),.str "/claim/cut.py" (t+2),.int l 0,.int 0 0,.int 0 0,.int 0 0,.int 0 0,.ref r,.bool false,.int 181 0,.ref (r+1),.none,.none,.none,.none,.int (t+3:Nat) 0,.int l 0,.str "/claim/cut.py" (t+4)],#[]⟩
abbrev oC (x y:Str)(t l n r u:Nat):Obj:=⟨.type "code",none,.fields #[.str x t,.str y (t+1),.str "/claim/cut.py" (t+2),.int l 0,.int n 0,.int 0 0,.int 0 0,.int 3 0,.ref r,.bool true,.int 181 0,.ref (r+1),.none,.ref (r+2),.ref (r+3),.ref (r+4),.int u 0,.int l 0,.str "/claim/cut.py" (u+1)],#[]⟩
abbrev oF (x y:Str)(s:Stmt)(m:Str)(t c:Nat)(d:Value:=.none):Obj:=⟨.type "function",none,.func (fnOf x y (pX s) (qg s) (mM s) d .none .none (.str m t) none (.ref c) .none),#[]⟩
abbrev oR (a b:Nat)(m:Str)(t:Nat):Obj:=⟨.type "frame",none,.plain,#[some (.ref a),some (.ref 3),some (.ref b),none,some (.str m t),none,some (.ref 0)]⟩
abbrev oX (x:Str)(b m:List Value)(n:Addr)(s:List Value)(r t u:Nat)(w:String):Obj:=⟨.type "type",none,.cls ⟨x,b,m,n,x,true,[],s,false,none,false⟩,#[some (.ref r),none,some (.str x t),some (.str x u),some (.builtin w),some (.bool true)]⟩
abbrev oU (a:Addr):Obj:=⟨.type "super",none,.fields #[.ref a,.ref a,.ref a],#[]⟩
abbrev oJ (a:Addr):Obj:=⟨.type "builtin_function_or_method",none,.fields #[.builtin "object.__init_subclass__",.ref a],#[]⟩
abbrev oP:Obj:=⟨.type "builtin_function_or_method",none,.fields #[.builtin "type.__prepare__",.type "type"],#[]⟩
abbrev oQ (a:Addr):Obj:=⟨.type "tuple",none,.seq #[.ref a] 0,#[]⟩
abbrev fG (x y:Str)(s:Stmt)(m:Str)(mt:Nat)(l:List Str)(t ln n a:Nat)(r:List Obj):List Obj:=o0::oN::oS l (t+3)::o0::kT x y s::oC x y t ln n a (t+3+l.length)::oF x y s m mt (a+5)::r
abbrev oW:List (Nat×Obj)->List Obj->List Obj
  | [],l=>l
  |x::r,l=>(oW r l).set x.1 x.2
abbrev eV (x:Str)(t:Tok)(v:Value)(P:Params):DictEntry:=⟨PyData.keyHash P x,.str x t,v⟩
abbrev eM (t:Nat)(m:Str)(u:Nat):Params->DictEntry:=eV "__module__" t (.str m u)
abbrev eQ (t:Nat)(m:Str)(u:Nat):Params->DictEntry:=eV "__qualname__" t (.str m u)
abbrev eF (t l u:Nat):Params->DictEntry:=eV "__firstlineno__" t (.int l u)
abbrev eS (t a:Nat):Params->DictEntry:=eV "__static_attributes__" t (.ref a)
abbrev eN (t:Nat):Params->DictEntry:=eV "__doc__" t .none
abbrev eR (x:Str)(t a:Nat):Params->DictEntry:=eV x t (.ref a)
abbrev oD (P:Params)(es:List (Params->DictEntry))(n:Nat):Obj:=⟨.type "dict",none,.dict (Array.mk (es.map λf=>f P)) n,#[]⟩
abbrev G1 (P:Params):List Obj:=
bo P 0::
bo P 1::
bo P 2::
bo P 3::
bo P 4::
bo P 5::
bo P 6::
bo P 7::
bo P 8::
bo P 9::
bo P 10::
o0::
oN::
oK "<module>" 182 1 11::
oR 13 3 "__main__" 164::[]
abbrev G4 (x y:Str)(t l n r:Nat):Obj:=⟨.type "code",none,.fields #[.str x t,.str y (t+1),.str "/claim/cut.py" (t+2),.int l 0,.int n 0,.int 0 0,.int 0 0,.int 3 0,.ref r,.bool true,.int 181 0,.ref (r+1),.none,.none,.none,.ref (r+2),.int (t+3:Nat) 0,.int l 0,.str "/claim/cut.py" (t+4)],#[]⟩
abbrev oG (x b:String)(v:Value)(a t:Nat):Obj:=⟨.type "getset_descriptor",none,.fields #[.str (Str.ofString x) t,.ref a,.builtin b,v],#[]⟩
@[reducible]def Mt:Type:=Str×Str×List Str×Nat×Nat×List (Obj×Nat)
abbrev As (a t:Nat)(s:Stmt)(m:Str×Nat)(x y:Str)(l:List Str)(ln n:Nat)(d:Value):List Obj:=match l with
  | []=>o0::oN::kT x y s::G4 x y t ln n a::oF x y s m.1 m.2 (a+3) d::[]
  |_=>o0::oN::oS l (t+3)::o0::kT x y s::oC x y t ln n a (t+3+l.length)::oF x y s m.1 m.2 (a+5) d::[]
abbrev GH (a t:Nat)(s:Stmt)(m:Str×Nat)(q:Mt):List Obj:=match q.2.2.2.2.2 with
  | []=>As a t s m q.1 q.2.1 q.2.2.1 q.2.2.2.1 q.2.2.2.2.1 .none
  |d::_=>d.1::As (a+1) (t+d.2) s m q.1 q.2.1 q.2.2.1 q.2.2.2.1 q.2.2.2.2.1 (.ref a)
abbrev Aj (q:Mt)(a:Nat):Nat:=match q.2.2.1 with
  | []=>a+5+q.2.2.2.2.2.length
  |_=>a+7+q.2.2.2.2.2.length
abbrev EC (q:Mt)(t:Nat):Nat:=match q.2.2.2.2.2 with
  | []=>t+6+q.2.2.1.length
  |d::_=>t+d.2+6+q.2.2.1.length
abbrev Gh (i:Nat)(m:Str×Nat):Nat->List Mt->Nat->Nat->(List Obj->Nat->Nat->List Obj)
  |_,[],_,_=>λr _ _=>r
  |j,q::l,a,t=>λr x y=>GH a t (inClass (top i) j) m q++Gh i m (j+1) l (Aj q a) (EC q t) r x y
abbrev Gf:List Mt->Nat->Nat
  | [],a=>a
  |q::l,a=>Gf l (Aj q a)
abbrev GG:List Mt->Nat->Nat
  | [],a=>a
  |q::l,a=>GG l (EC q a)
abbrev Gu:List Mt->Nat->Nat->List (Params->DictEntry)->List (Params->DictEntry)
  | [],_,_,r=>r
  |q::l,a,t,r=>eR q.1 (EC q t-1) (Aj q a-1)::Gu l (Aj q a) (EC q t) r
abbrev Gj:List Mt->Nat->List Value
  | [],_=>[]
  |q::l,a=>.int q.2.2.2.1 0::.int 4 0::.ref (Aj q a-2)::Gj l (Aj q a)
@[reducible]def It:Type:=(Params->List Obj)×List (Params->DictEntry)×List Value
abbrev iF (a t i:Nat)(m:Str×Nat)(x:Str)(l:List Str)(ln n:Nat)(d:List (Obj×Nat):=[]):It:=(λ_=>GH a t (top i) m (x,x,l,ln,n,d),eR x (EC (x,x,l,ln,n,d) t-1) (Aj (x,x,l,ln,n,d) a-1)::[],.int ln 0::.int 0 0::.ref (Aj (x,x,l,ln,n,d) a-2)::[])
abbrev iR (o:Params->List Obj):It:=(o,[],[])
abbrev iE (x:Str)(t:Nat)(v:Value):It:=(λ_=>[],[eV x t v],[])
abbrev iC (a T i:Nat)(m:Str×Nat)(x:Str)(ln:Nat)(ms:List Mt)(st:List Str)(sub:List Value:=[]) (br:Nat:=0) (mro:List Value:=[]) (w:String:=""):It:=
  let b:=Gf ms (a+7)
  let s:=GG ms (T+12)
  let e:=s+st.length
  let h (z:List (Params->DictEntry)):=eF (T+11) ln (T+10)::Gu ms (a+7) (T+12) (eS e b::z)
  let o (y:List (Params->DictEntry)) (z k:Obj) (n:Nat) (r:List Obj) (P:Params):List Obj:=z::oP::oD P (eM (T+7) m.1 m.2::eQ (T+9) x (T+8)::h []) (4+ms.length)::o0::⟨.none,none,.fields (Array.mk (Gj ms (a+7))),#[]⟩::oK x (T+2) ln (a+3)::oR (a+5) (a+2) m.1 m.2::Gh i m 0 ms (a+7) (T+12) ((match st with| []=>o0|_=>oS st s)::oD P (eM (T+7) m.1 m.2::h y) n::k::r) 0 0
  match br with
  |0=>(o [eR "__dict__" (e+2) (b+3),eR "__weakref__" (e+4) (b+4),eN (e+5)] o0 ⟨.type "type",none,.cls ⟨x,[.type "object"],[.ref (b+2),.type "object"],b+1,x,true,[],sub,false,none,false⟩,#[none,none,some (.str x T),some (.str x (T+8)),some (.builtin "object.__new__"),some (.bool true)]⟩ 4 [oG "__dict__" "function.__dict__" (.builtin "function.__dict__#set") (b+2) (e+1),oG "__weakref__" "ExceptionGroup.__weakref__" .none (b+2) (e+3),oU (b+2),oJ (b+2)],eR x (e+7) (b+2)::[],.int ln 0::.int 0 0::.ref (a+5)::[])
  |_=>(o [eN (e+1)] (oQ br) (oX x [.ref br] (.ref (b+2)::.ref br::mro) (b+1) sub a T (T+8) w) 2 [oU (b+2),oJ (b+2)],eR x (e+3) (b+2)::[],.int ln 0::.int 0 0::.ref (a+5)::[])
abbrev Fj (P:Params)(nm:Str)(nt n:Nat)(l:List It):List Obj:=bo P 0::bo P 1::bo P 2::oD P (eV "__name__" 165 (.str nm nt)::eN 166::eV "__package__" 167 .none::eV "__loader__" 168 (.builtin "__main__.__loader__#opaque")::eV "__spec__" 169 .none::eR "__annotations__" 170 6::eR "__builtins__" 171 4::eV "__file__" 173 (.str "/claim/cut.py" 172)::eV "__cached__" 174 .none::l.flatMap (·.2.1)) n::bo P 4::bo P 5::bo P 6::bo P 7::bo P 8::bo P 9::bo P 10::o0::⟨.none,none,.fields (Array.mk (l.flatMap (·.2.2))),#[]⟩::oK "<module>" 182 1 11::oR 13 3 "__main__" 164::l.flatMap (·.1 P)
abbrev GU:Str×Nat:=("__main__",164)
abbrev Gi:Str×Nat:=("haulbell.errors",194)
abbrev G2:Str×Nat:=("haulbell.wholes",264)
abbrev Gr:Str×Nat:=("haulbell.boxes",275)
abbrev Af:Str×Nat:=("haulbell.deeds",298)
abbrev FU:Str×Nat:=("haulbell.hops",547)
abbrev Fc:Str×Nat:=("haulbell.items",609)
abbrev C4:Str×Nat:=("haulbell.longs",725)
abbrev GX:Str×Nat:=("haulbell.book",919)
abbrev FO:Str×Nat:=("haulbell.reader",931)
abbrev ip:Str×Nat:=("haulbell.texts",1079)
abbrev dP:Str×Nat:=("law_haulbell_k91_blocks_written",1184)
abbrev Gz (a T i:Nat)(m:Str×Nat)(x:Str)(ln:Nat)(ms:List Mt)(st:List Str)(sub:List Value:=[]):It:=iC a T i m x ln ms st sub 31 [.type "ValueError",.type "Exception",.type "BaseException",.type "object"] "ValueError.__new__"
abbrev tI (a T i:Nat)(m:Str×Nat)(x:Str)(ln:Nat)(ms:List Mt)(st:List Str)(sub:List Value:=[]):It:=iC a T i m x ln ms st sub 118 [.type "object"] "object.__new__"
abbrev CO:List It:=
iF 15 187 0 GU "_wall" ["k"] 1 1::
iE "HaulError" 213 (.ref 31)::
iR (λP=>[⟨.type "tuple",none,.seq #[.type "ValueError"] 0,#[]⟩,oP,oD P [eM 203 "haulbell.errors" 194,eQ 205 "HaulError" 204,eF 207 5 206,eS 208 29] 4,o0,oN,oK "HaulError" 198 5 25,oR 27 24 "haulbell.errors" 194,o0,oD P [eM 203 "haulbell.errors" 194,eF 207 5 206,eS 208 29,eR "__weakref__" 210 32,eN 211] 3,oX "HaulError" [.type "ValueError"] [.ref 31,.type "ValueError",.type "Exception",.type "BaseException",.type "object"] 30 [.ref 51,.ref 70] 22 196 204 "ValueError.__new__",⟨.type "getset_descriptor",none,.fields #[.str "__weakref__" 209,.ref 31,.builtin "ExceptionGroup.__weakref__",.none],#[]⟩,oU 31,oJ 31])::
Gz 35 214 3 Gi "NoDeed" 7 [("__init__","NoDeed.__init__",["self","word"],9,2,[])] ["word"]::
Gz 54 239 4 Gi "NoText" 12 [("__init__","NoText.__init__",["self","at"],14,2,[])] ["at"]::
iE "BOUND" 267 (.int 1000000000 266)::
iF 73 268 7 G2 "is_whole" ["thing"] 19 1::
iE "NAMES" 283 (.ref 80)::
iR (λ_=>[oS ["here","there","left","way","sign","met"] 277])::
iF 81 284 10 Gr "is_box" ["thing"] 23 1::
iF 88 291 11 Gr "is_number" ["thing"] 25 1::
iF 95 300 13 Af "check_box" ["word","box"] 28 2::
iF 102 308 14 Af "check_number" ["word","number"] 31 2::
iC 109 316 0 Af "Deed" 34 [] [] [.ref 153,.ref 186,.ref 219,.ref 252,.ref 285,.ref 333,.ref 444,.ref 470,.ref 496,.ref 522,.ref 548,.ref 574]::
tI 123 336 16 Af "Set" 36 [("__init__","Set.__init__",["self","box","number"],38,3,[]),("step","Set.step",["self","boxes","store"],44,3,[]),("words","Set.words",["self"],47,1,[])] ["box","number"]::
tI 156 379 17 Af "Add" 49 [("__init__","Add.__init__",["self","box","number"],51,3,[]),("step","Add.step",["self","boxes","store"],57,3,[]),("words","Add.words",["self"],60,1,[])] ["box","number"]::
tI 189 422 18 Af "Take" 62 [("__init__","Take.__init__",["self","box","other"],64,3,[]),("step","Take.step",["self","boxes","store"],70,3,[]),("words","Take.words",["self"],73,1,[])] ["box","other"]::
tI 222 465 19 Af "Read" 75 [("__init__","Read.__init__",["self","box"],77,2,[]),("step","Read.step",["self","boxes","store"],81,3,[]),("words","Read.words",["self"],84,1,[])] ["box"]::
tI 255 506 20 Af "Write" 86 [("__init__","Write.__init__",["self","box"],88,2,[]),("step","Write.step",["self","boxes","store"],92,3,[]),("words","Write.words",["self"],95,1,[])] ["box"]::
iE "MOST_HOPPED" 550 (.int 24 549)::
iF 288 551 23 FU "is_many" ["thing"] 99 1::
iF 295 558 24 FU "is_on" ["thing"] 101 1::
tI 302 565 25 FU "Hop" 103 [("__init__","Hop.__init__",["self","many","on"],105,3,[(⟨.type "tuple",none,.seq #[.none] 0,#[]⟩,0)]),("step","Hop.step",["self","boxes","store"],111,3,[]),("words","Hop.words",["self","told"],114,1,[])] ["many","on"]::
iC 336 611 27 Fc "Do" 120 [("__init__","Do.__init__",["self","name"],122,2,[]),("told","Do.told",["self"],125,1,[])] ["called"]::
iC 364 647 28 Fc "Times" 127 [("__init__","Times.__init__",["self","many","block"],129,3,[]),("told","Times.told",["self"],133,1,[])] ["block","many"]::
iC 392 685 29 Fc "When" 135 [("__init__","When.__init__",["self","on","block","other"],137,4,[(⟨.type "tuple",none,.seq #[.none] 0,#[]⟩,0)]),("told","When.told",["self"],142,1,[])] ["block","on","other"]::[]
abbrev jA:List It:=
tI 421 727 31 C4 "Copy" 145 [("step","Copy.step",["self","boxes","store"],147,3,[]),("words","Copy.words",["self"],150,1,[])] []::
tI 447 759 32 C4 "Fill" 152 [("step","Fill.step",["self","boxes","store"],154,3,[]),("words","Fill.words",["self"],157,1,[])] []::
tI 473 791 33 C4 "Seek" 159 [("step","Seek.step",["self","boxes","store"],161,3,[]),("words","Seek.words",["self"],164,1,[])] []::
tI 499 823 34 C4 "Match" 166 [("step","Match.step",["self","boxes","store"],168,3,[]),("words","Match.words",["self"],171,1,[])] []::
tI 525 855 35 C4 "Shift" 173 [("step","Shift.step",["self","boxes","store"],175,3,[]),("words","Shift.words",["self"],178,1,[])] []::
tI 551 887 36 C4 "Turn" 180 [("step","Turn.step",["self","boxes","store"],182,3,[]),("words","Turn.words",["self"],185,1,[])] []::
iE "LETTERS" 922 (.str "abcdefghijklmnopqrstuvwxyz" 921)::
iE "LONGEST_NAME" 924 (.int 8 923)::
iF 577 925 40 GX "is_name" [] 190 1::
iE "FIGURES" 934 (.str "0123456789" 933)::
iE "MOST_FIGURES" 936 (.int 10 935)::
iF 582 937 44 FO "is_written" [] 197 1::
iF 587 943 45 FO "number_of" ["word"] 204 1::
iC 594 950 46 FO "Reader" 206 [("__init__","Reader.__init__",["self","text"],208,2,[]),("ahead","Reader.ahead",["self"],214,1,[]),("take","Reader.take",["self","stands","word"],217,2,[]),("skips","Reader.skips",["self","word"],224,2,[]),("take_word","Reader.take_word",["self","word"],230,2,[]),("take_any","Reader.take_any",["self"],233,1,[]),("take_name","Reader.take_name",["self"],236,1,[]),("take_box","Reader.take_box",["self"],239,1,[]),("take_number","Reader.take_number",["self","low","high","number"],242,3,[]),("take_any_number","Reader.take_any_number",["self"],247,1,[]),("take_fitting","Reader.take_fitting",["self","box"],250,2,[]),("take_leaves","Reader.take_leaves",["self"],253,1,[]),("ended","Reader.ended",["self"],256,1,[]),("finish","Reader.finish",["self"],259,1,[])] ["at","queue"]::
iE "MOST_TIMES" 1082 (.int 9 1081)::
iE "MOST_ITEMS" 1084 (.int 24 1083)::
iE "DEEPEST" 1086 (.int 4 1085)::
iF 706 1087 51 ip "long_deed_from" ["reader"] 266 1::
iF 713 1094 52 ip "hop_from" ["reader","many"] 279 1::
iF 720 1102 53 ip "deed_from" ["reader"] 284 1::
iF 727 1109 54 ip "when_from" ["reader","depth","on","block"] 298 2::
iF 734 1119 55 ip "item_from" ["reader","depth"] 304 2::
iF 741 1127 56 ip "items_from" ["reader","depth","items"] 312 2::
iF 748 1136 57 ip "block_from" ["reader"] 323 1::
iF 755 1143 58 ip "read_block" ["text","reader","block"] 325 1::
iF 762 1152 59 ip "when_words" ["when","told"] 330 1::
iF 769 1160 60 ip "item_words" ["item"] 336 1::
iF 776 1167 61 ip "block_words" ["block","told","place","item"] 344 1::
iF 783 1177 62 ip "show_block" ["block"] 352 1::
iF 790 1186 64 dP "_law_hand" ["_law_script","_law_cells","_law_fold","_law_cell"] 355 1::
iF 797 1196 65 dP "_law_draw" ["_law_hand_here","_law_many","_law_rest","_law_cell","_law_one","_law_two"] 361 2::
iF 804 1208 66 dP "_law_spec" ["_law_hand_here","_law_size","_law_way","_law_names","_law_box","_law_pick"] 377 2::
iF 811 1220 67 dP "_law_deed" ["_law_spec_here","_law_word"] 395 1::
iF 818 1228 68 dP "_law_long" ["_law_word"] 410 1::
iF 825 1235 69 dP "_law_words" [] 422 1::
iF 830 1241 70 dP "_law_name" [] 427 1::
iF 835 1247 71 dP "_law_block" ["_law_hand_here","_law_deep","_law_room","_law_block_here","_law_k"] 433 3::
iF 842 1258 72 dP "_law_item" ["_law_hand_here","_law_deep","_law_room","_law_way","_law_other"] 440 3::
iF 849 1269 73 dP "_law_item_text" ["_law_item_here","_law_text_here"] 452 1::
iF 856 1277 74 dP "_law_text" [] 463 1::
iF 861 1283 75 dP "_law_made" ["_law_block_here","_law_items","_law_item_here"] 467 1::
iF 868 1292 76 dP "_law_is" [] 481 2::
iF 873 1298 77 dP "_law_is_item" ["_law_thing","_law_item_here"] 485 2::
iF 880 1306 78 dP "_law_right" ["_law_block_here","_law_text_here","_law_turn","_law_items","_law_made_here"] 497 1::
iF 887 1317 79 dP "_law_empty_other" ["_law_hand_here","_law_block_here","_law_on","_law_text_here","_law_items"] 506 2::[]
abbrev G3 (P:Params):List Obj:=oW [(12,⟨.none,none,.fields (GC GJ),#[]⟩),(118,⟨.type "type",none,.cls ⟨"Deed",[.type "object"],[.ref 118,.type "object"],117,"Deed",true,[],[.ref 153,.ref 186,.ref 219,.ref 252,.ref 285,.ref 333],false,none,false⟩,#[none,none,some (.str "Deed" 316),some (.str "Deed" 324),some (.builtin "object.__new__"),some (.bool true)]⟩)] (Fj P "haulbell.items" 609 33 CO)
abbrev GS (P:Params):List Obj:=oW [(12,⟨.none,none,.fields (GC G5),#[]⟩)] (Fj P "law_haulbell_k91_blocks_written" 1184 78 (CO++jA))
abbrev S0 (P:Params)(os:OsState):SharedT:=⟨Dq 0 .nil (G1 P),15,(boot_heap P).life,Array.mk [],boot_drawn,187,os⟩
abbrev q0:Pos:=⟨0,0,0,0⟩
abbrev S1 (P:Params)(os:OsState):SharedT:=⟨Dq 0 .nil (G3 P),421,(boot_heap P).life,Array.mk [],boot_drawn,725,os⟩
abbrev q1:Pos:=⟨135,0,143,68⟩
abbrev S2 (P:Params)(os:OsState):SharedT:=⟨Dq 0 .nil (GS P),894,(boot_heap P).life,Array.mk [],boot_drawn,1328,os⟩
abbrev q2:Pos:=⟨506,0,510,130⟩
abbrev GO (P:Params):List Obj:=Fj P "law_haulbell_k91_blocks_written" 1184 79 (CO++jA++[iF 894 1328 80 dP "law" [] 511 1])
abbrev K0 (P:Params):PySem.W.Frag:=E3.map λa=>(a,(GO P).getD a oN)
abbrev mQ (p:Program):Program:=PySem.W.view p [80]
abbrev tU:List Str:="_wall"::"HaulError"::"NoDeed"::"NoText"::"BOUND"::"is_whole"::"NAMES"::"is_box"::"is_number"::"check_box"::"check_number"::"Deed"::"Set"::"Add"::"Take"::"Read"::"Write"::"MOST_HOPPED"::"is_many"::"is_on"::"Hop"::"Do"::"Times"::"When"::"Copy"::"Fill"::"Seek"::"Match"::"Shift"::"Turn"::"LETTERS"::"LONGEST_NAME"::"is_name"::"FIGURES"::"MOST_FIGURES"::"is_written"::"number_of"::"Reader"::"MOST_TIMES"::"MOST_ITEMS"::"DEEPEST"::"long_deed_from"::"hop_from"::"deed_from"::"when_from"::"item_from"::"items_from"::"block_from"::"read_block"::"when_words"::"item_words"::"block_words"::"show_block"::"_law_hand"::"_law_draw"::"_law_spec"::"_law_deed"::"_law_long"::"_law_words"::"_law_name"::"_law_block"::"_law_item"::"_law_item_text"::"_law_text"::"_law_made"::"_law_is"::"_law_is_item"::"_law_right"::"_law_empty_other"::[]
end My
open PySem PySem.W in
set_option maxHeartbeats 0 in
def My.Bu (w:World)(os:OsState):My.runK treeTable My.pr w 11 (some (.ref 6)) 12 (My.E5 w.params os) (topStub My.pr)=some (My.S0 w.params os,⟨denote treeTable (.body (ac My.pr) (My.gj My.pr)),.body (ac My.pr) (My.gj My.pr),default,[My.Ge]⟩):=by
  delta My.pr;rewrite[Fast.te2368527892694137696,Fast.te14364793385576792824]
  kernel_rfl
open PySem PySem.W in
set_option maxHeartbeats 0 in
def My.Cj (w:World)(os:OsState)(B:List Stmt):My.runK treeTable My.pr w 11 (some (.ref 6)) 3818 (My.S0 w.params os) (My.nZ My.pr (((ac My.pr).drop 0).take 30++B) My.q0)=some (My.S1 w.params os,My.nZ My.pr B My.q1):=
  byRow2 (P:=λw=>My.runK treeTable My.pr w 11 (some (.ref 6)) 3818 (My.S0 w.params os) (My.nZ My.pr (((ac My.pr).drop 0).take 30++B) My.q0)=some (My.S1 w.params os,My.nZ My.pr B My.q1)) "special-get-raises"
   (λw=>by
    delta My.pr;rewrite[Fast.te2368527892694137696,Fast.te14364793385576792824]
    kernel_rfl)
   (λw=>by
    delta My.pr;rewrite[Fast.te2368527892694137696,Fast.te14364793385576792824]
    kernel_rfl) w
open PySem PySem.W in
set_option maxHeartbeats 0 in
def My.CH (w:World)(os:OsState)(B:List Stmt):My.runK treeTable My.pr w 11 (some (.ref 6)) 3326 (My.S1 w.params os) (My.nZ My.pr (((ac My.pr).drop 30).take 50++B) My.q1)=some (My.S2 w.params os,My.nZ My.pr B My.q2):=by
  delta My.pr;rewrite[Fast.te2368527892694137696,Fast.te14364793385576792824]
  kernel_rfl
open PySem PySem.W in
set_option maxHeartbeats 0 in
def My.Dx:LeftO My.pr (My.mQ My.pr) My.tU (λs=>xlAt (My.mQ My.pr) [] s&&recOk PySem.Challenge.rw_haulbell_k91_blocks_written.row.records s) (λs=>My.E3.map s.heap.get?) (λw=>(My.K0 w.params).map λp=>some p.2) 14466:=by
  refine My.rO (by kernel_rfl) rfl (λ_=>by kernel_rfl) (λ_=>by kernel_rfl) (λ_=>by kernel_rfl) λw os=>?_
  have d:denote treeTable (.body (ac My.pr) (My.gj My.pr))=My.yk My.pr (ac My.pr):=My.tK (by kernel_rfl);have e:My.jB treeTable My.pr w 11 (some (.ref 6)) (12+(3818+(3326+(7310)))) (My.E5 w.params os) (topStub My.pr)=My.jB treeTable My.pr w 11 (some (.ref 6)) 7310 (My.S2 w.params os) (My.nZ My.pr ((ac My.pr).drop 80) My.q2):=by
    rw[My.dZ (My.Bu w os)];dsimp only;rw[d];show My.jB treeTable My.pr w 11 (some (.ref 6)) _ (My.S0 w.params os) (My.nZ My.pr ((ac My.pr).drop 0) My.q0)=_;rw[show(ac My.pr).drop 0=((ac My.pr).drop 0).take 30++(ac My.pr).drop 30 from by
      rw[show(ac My.pr).drop 30=((ac My.pr).drop 0).drop 30 by rw[List.drop_drop],List.take_append_drop],My.dZ (My.Cj w os _)]
    rw[show(ac My.pr).drop 30=((ac My.pr).drop 30).take 50++(ac My.pr).drop 80 from by
      rw[show(ac My.pr).drop 80=((ac My.pr).drop 30).drop 50 by rw[List.drop_drop],List.take_append_drop],My.dZ (My.CH w os _)]
  rw[show(14466:Nat)=12+(3818+(3326+(7310))) from rfl,e]
  delta My.pr;rewrite[Fast.te4187177175401517315,Fast.te5923862056798008813,Fast.te2368527892694137696,Fast.te14364793385576792824]
  kernel_rfl
set_option Elab.async false
open List(mem_range filterMap_cons mem_cons_self mem_cons_of_mem mem_cons mem_append mem_append_left getElem?_set_self getElem?_set_ne mem_append_right size_toArray any_eq_false length_cons map_cons length_map append_nil nodup_cons of_mem_zip length_take getElem?_append_right getElem?_append_left getElem?_map take_sublist mem_of_getElem? length_append length_drop length_set all_cons any_cons length_singleton find?_cons length_nil cons_append forIn_cons nil_append forIn_nil getElem?_eq_getElem drop_zero lookup_cons take_of_length_le length_eq_zero_iff all_eq_true not_mem_nil zip_cons_cons foldl_cons append_assoc zip_append take_append_drop isEmpty_iff map_append mem_singleton length_pos_iff sum_cons flatten_cons cons_ne_nil take_succ)
@[reducible]def HB:Type:=Unit->PySem.Shared->Prop
@[reducible]def HC:Type:=PySem.Value->PySem.Shared->Prop
@[reducible]def HD:Type:=List (PySem.Addr×PySem.Obj)
@[reducible]def HE:Type:=PySem.Str->Option PySem.Value
namespace L2
open PySem PySem.Spec PyProof.Rows
@[reducible]def Key:=Sum Int Str
abbrev kc:Key->Value->Bool
 | .inl k,v=>Value.isInt k v
 | .inr x,v=>Value.isStrOf x v
abbrev Fd (w:World):Key->Int
 | .inl k=>hashInt k
 | .inr x=>hashStr w x
def aF:∀ {k:Key}{v:Value},kc k v=true->(∃ i t,k=Sum.inl i/\v=Value.int i t)\/(∃ x t,k=Sum.inr x/\v=Value.str x t)
 | .inl i,v,h=>by
  obtain⟨t,e⟩:=Value.isInt_shape (k:=i) (v:=v) h;exact .inl ⟨i,t,rfl,e⟩
 | .inr x,v,h=>by
  obtain⟨t,e⟩:=Value.isStrOf_shape (x:=x) (v:=v) h;exact .inr ⟨x,t,rfl,e⟩
def tw (i:Int)(t:Tok):kc (.inl i) (.int i t)=true:=by simp[kc,Value.isInt]
def rE (x:Str)(t:Tok):kc (.inr x) (.str x t)=true:=by simp[kc,Value.isStrOf]
def BF (a b:Int):decide ((Sum.inl a:Key)=Sum.inl b)=(a ==b):=by
 by_cases e:a=b
 .subst e;simp
 .have h:¬ (Sum.inl a:Key)=Sum.inl b:=λq=>e (Sum.inl.inj q)
  rw[decide_eq_false h];exact(beq_eq_false_iff_ne.mpr e).symm
def Bi (a b:Str):decide ((Sum.inr a:Key)=Sum.inr b)=decide (a=b):=by
 by_cases e:a=b
 .subst e;simp
 .have h:¬ (Sum.inr a:Key)=Sum.inr b:=λq=>e (Sum.inr.inj q)
  rw[decide_eq_false h,decide_eq_false e]
def AF (a:Int)(b:Str):decide ((Sum.inl a:Key)=Sum.inr b)=false:=decide_eq_false (λq=>nomatch q)
def AE (a:Str)(b:Int):decide ((Sum.inr a:Key)=Sum.inl b)=false:=decide_eq_false (λq=>nomatch q)
abbrev aN (prog:Program)(w:World):PySem.KeyKind prog w Key where
 is:=kc
 hash:=Fd w
 inj:=λv a b ha hb=>by
  rcases aF ha with⟨i,t,rfl,rfl⟩|⟨x,t,rfl,rfl⟩
  .rcases aF hb with⟨j,u,rfl,e⟩|⟨y,u,rfl,e⟩
   .injection e with e1 _;rw[e1]
   .exact nomatch e
  .rcases aF hb with⟨j,u,rfl,e⟩|⟨y,u,rfl,e⟩
   .exact nomatch e
   .injection e with e1 _;rw[e1]
 byValue:=λk v h=>by
  rcases aF h with⟨i,t,rfl,rfl⟩|⟨x,t,rfl,rfl⟩<;>rfl
 pyHash:=λhv h=>by
  rcases aF hv with⟨i,t,rfl,rfl⟩|⟨x,t,rfl,rfl⟩
  .exact wpAny_pyHash_int h
  .exact wpAny_pyHash_str h
 eqBool:=λhu hv h=>by
  rcases aF hu with⟨i,t,rfl,rfl⟩|⟨x,t,rfl,rfl⟩
  .rcases aF hv with⟨j,u,rfl,rfl⟩|⟨y,u,rfl,rfl⟩
   .rw[BF]at h;exact wpAny_eqBool_int h
   .rw[AF]at h;exact SeqAt.EqAt.int_str i t y u _ _ _ _ h
  .rcases aF hv with⟨j,u,rfl,rfl⟩|⟨y,u,rfl,rfl⟩
   .rw[AE]at h;exact SeqAt.EqAt.str_int x t j u _ _ _ _ h
   .rw[Bi]at h;exact wpAny_eqBool_str h
 «strs»:=λk x t v h=>by
  rcases aF h with⟨i,u,rfl,e⟩|⟨y,u,rfl,e⟩
  .exact nomatch e
  .injection e with e1 _
   subst e1;cases v<;>rfl
def mn (prog:Program)(w:World)(i:Int)(t:Tok):(aN prog w).is (.inl i) (.int i t)=true:=tw i t
def mD (prog:Program)(w:World)(x:Str)(t:Tok):(aN prog w).is (.inr x) (.str x t)=true:=rE x t
inductive V where
 |non|bl (b:Bool)|int (i:Int)|str (x:Str)|byt (b:Array UInt8)|flt (b:UInt64)|ref (a:Addr)|ty (n:String)
 deriving DecidableEq
abbrev RelV:V->Value->Prop
 | .non,u=>u=Value.none
 | .bl b,u=>u=Value.bool b
 | .int i,u=>∃ t,u=Value.int i t
 | .str x,u=>∃ t,u=Value.str x t
 | .byt b,u=>∃ t,u=Value.bytes b t
 | .flt b,u=>∃ t,u=Value.float b t
 | .ref a,u=>u=Value.ref a
 | .ty n,u=>u=Value.type n
@[reducible]def Vals:List V->List Value->Prop:=Paired RelV
variable {xs:List V}{us:List Value}
def Vals.length (r:Vals xs us):xs.length=us.length:=Paired.length r
def Vals.get:∀ {xs:List V}{us:List Value}{i:Nat}{x:V},Vals xs us->xs[i]? =some x->∃ u,us[i]? =some u/\RelV x u
 |_,_,_,_,.nil,e=>by simp at e
 |_,_,0,_,.cons r _,e=>by simp at e;subst e;exact⟨_,rfl,r⟩
 |_,_,i+1,x,.cons _ t,e=>by
  obtain⟨u,h1,h2⟩:=Vals.get (i:=i) (x:=x) t (by simpa using e);exact⟨u,by simpa using h1,h2⟩
variable {u:Value}
def Vals.set {x:V}(r:RelV x u):∀ {xs:List V}{us:List Value}(i:Nat),Vals xs us->Vals (xs.set i x) (us.set i u)
 |_,_,_,.nil=>.nil
 |_,_,0,.cons _ t=>.cons r t
 |_,_,i+1,.cons q t=>.cons q (Vals.set r i t)
def Vals.append:∀ {xs ys:List V}{us ws:List Value},Vals xs us->Vals ys ws->Vals (xs++ys) (us++ws)
 |_,_,_,_,.nil,s=>s
 |_,_,_,_,.cons r t,s=>.cons r (Vals.append t s)
def Vals.take:∀ {xs:List V}{us:List Value}(n:Nat),Vals xs us->Vals (xs.take n) (us.take n)
 |_,_,0,_=>.nil
 |_,_,_+1,.nil=>.nil
 |_,_,n+1,.cons r t=>.cons r (Vals.take n t)
def Vals.drop:∀ {xs:List V}{us:List Value}(n:Nat),Vals xs us->Vals (xs.drop n) (us.drop n)
 |_,_,0,r=>r
 |_,_,_+1,.nil=>.nil
 |_,_,n+1,.cons _ t=>Vals.drop n t
abbrev cI:Option V->Option Value->Prop
 |some v,some u=>RelV v u
 |none,none=>True
 |_,_=>False
abbrev KV {κ:Type}:List (κ×V)->List (κ×Value)->Prop:=Paired λ(p:κ×V) (q:κ×Value)=>p.1=q.1/\RelV p.2 q.2
abbrev kV:Key->V
 | .inl i=>.int i
 | .inr x=>.str x
inductive HO where
  |lst (xs:List V)
  |tup (xs:List V)
  |dK (kvs:List (Key×V))|dT (kvs:List (List Key×V))
  |set (S:Int->Bool) (n:Nat)
  |ins (C dx:Addr) (fs:List (Str×V))
  |own (x:Addr)
  |exc (C:Addr) (dx:Option Addr) (fs:List (Str×V)) (fr:Bool)
  |xd (fs:List (Str×V))
  |met (f x:Addr)
  |rng (lo hi:Int)
  |kn (o:Obj) (u:HO)
  |tbl (ps:Array Value)
  |ext (φ:Heap->Prop)
@[reducible]def Hp:=Addr->Option HO
abbrev upd (H:Hp)(a:Addr)(o:HO):Hp:=λb=>if b=a then some o else H b
variable {H:Hp}{a:Addr}{o:HO}
def aA:upd H a o a=some o:=by unfold upd;rw[if_pos rfl]
variable {b:Addr}
def af (h:b≠a):upd H a o b=H b:=by unfold upd;rw[if_neg h]
def xQ {u:HO}:upd (upd H a o) a u=upd H a u:=by
 funext b;unfold upd;split<;>rfl
def Dn {u:HO}(h:H a=some o)(h':H b=some u)(d:o≠u):a≠b:=by
 intro e;subst e;rw[h]at h';exact d (Option.some.inj h')
def aK (h:H a=some o)(h':H b=none):a≠b:=by
 intro e;subst e;rw[h]at h';cases h'
section
variable (P:Program) (w:World)
abbrev aJ (H:Hp)(h:Heap)(a:Addr):HO->Prop
 | .lst xs=>xs.length<=ce/\∃ (its:List Value) (n:Nat),Vals xs its/\h.get? a=some { cls:=.type "list",data:=.seq its.toArray n }
 | .tup xs=>xs.length<=ce/\∃ its:List Value,Vals xs its/\IsTup h a its.toArray
 | .dK kvs=>kvs.length<=ce/\(a ==sysModules)=false/\∃ vs,KV kvs vs/\h.DictOf (aN P w) a vs
 | .dT kvs=>kvs.length<=ce/\(a ==sysModules)=false/\∃ xs:List (List Key×Addr×Value),
   Paired (λ(p:List Key×V) (q:List Key×Addr×Value)=>p.1=q.1/\H q.2.1=some (.tup (p.1.map kV))/\RelV p.2 q.2.2) kvs xs/\
   ∃ o es ep,h.get? a=some o/\o.ExactDict/\o.data=.dict es ep/\es.toList=xs.map (entryOfKey (tupleKind (aN P w)))/\(xs.map (·.1)).Nodup
 | .set S n=>h.SetOf (intKind P w) a S n
 | .ins C dx fs=>H dx=some (.own a)/\fs.length<=1000/\dx≠a/\h.get? a=some (W.instObj C dx)/\
   ∃ mA,h.Ns1 dx mA/\(∀ f,cI (fs.lookup f) (mA f))/\PySem.Within mA (fs.map (·.1))
 | .exc C dx fs fr=>(∃ vs,h.get? a=some { cls:=.ref C,dict:=dx,data:=.fields vs }/\vs.size=6/\(fr=true->vs[1]? =some Value.none))/\
   ((dx=none/\fs=[])\/∃ d,dx=some d/\H d=some (.own a)/\fs.length<=1000/\d≠a/\∃ mA,h.Ns1 d mA/\(∀ f,cI (fs.lookup f) (mA f))/\PySem.Within mA (fs.map (·.1)))
 | .own _=>∃ o,h.get? a=some o
 | .xd fs=>∃ mA,h.Ns1 a mA/\∀ f,cI (fs.lookup f) (mA f)
 | .rng lo hi=>∃ t u v,h.get? a=some { cls:=.type "range",data:=.fields #[.int lo t,.int hi u,.int 1 v] }
 | .kn o u=>h.get? a=some o/\aJ H h a u
 | .tbl ps=>h.get? a=some { cls:=.none,data:=.fields ps }
 | .met f x=>h.get? a=some (W.methodObj (.ref f) (.ref x))
 | .ext φ=>φ h/\(∃ o,h.get? a=some o)/\∀ h1 h2:Heap,φ h1->(∀ o,h1.get? a=some o->h2.get? a=some o)->φ h2
abbrev fh (H:Hp)(h:Heap):Prop:=∀ a o,H a=some o->aJ P w H h a o
end
section
variable {P:Program}{w:World}{H H':Hp}{h h':Heap}{a:Addr}{o:HO}
def aJ.lt (x:aJ P w H h a o):a<h.objs.size:=by
 cases o with
 |lst xs=>obtain⟨_,_,_,_,e⟩:=x;exact ul e
 |tup xs=>obtain⟨_,_,_,p⟩:=x;exact p.lt
 |dK kvs=>obtain⟨_,_,_,_,o,_,_,e,_⟩:=x;exact ul e
 |dT kvs=>obtain⟨_,_,_,_,o,_,_,e,_⟩:=x;exact ul e
 |set S n=>obtain⟨o,_,_,_,e,_⟩:=x;exact ul e
 |ins C dx fs=>obtain⟨_,_,_,e,_⟩:=x;exact ul e
 |exc C dx fs fr=>obtain⟨⟨_,e,_⟩,_⟩:=x;exact ul e
 |own y=>obtain⟨_,e⟩:=x;exact ul e
 |xd fs=>obtain⟨_,⟨_,_,_,e,_⟩,_⟩:=x;exact ul e
 |rng lo hi=>obtain⟨_,_,_,e⟩:=x;exact ul e
 |kn ob u=>obtain⟨e,_⟩:=x;exact ul e
 |tbl ps=>exact ul (show h.get? a=some _ from x)
 |met f y=>exact ul (show h.get? a=some _ from x)
 |ext φ=>obtain⟨_,⟨_,e⟩,_⟩:=x;exact ul e
def Paired.CB {α β:Type}{F G:α->β->Prop}:∀ {l₁:List α}{l₂:List β},Paired F l₁ l₂->(∀ a b,F a b->G a b)->Paired G l₁ l₂
 |_,_,.nil,_=>.nil
 |_,_,.cons r t,f=>.cons (f _ _ r) (Paired.CB t f)
def aJ.d9 (x:aJ P w H h a o)(k:∀ b u,(b=a\/H b=some (.own a))->h.get? b=some u->h'.get? b=some u)
  (ho:∀ b,H b=some (.own a)->H' b=some (.own a)) (ht:∀ b xs,H b=some (.tup xs)->H' b=some (.tup xs)):aJ P w H' h' a o:=by
 induction o with
 |lst xs=>obtain⟨z,its,n,r,e⟩:=x;exact⟨z,its,n,r,k _ _ (.inl rfl) e⟩
 |tup xs=>obtain⟨z,its,r,ob,e,c⟩:=x;exact⟨z,its,r,ob,k _ _ (.inl rfl) e,c⟩
 |dK kvs=>obtain⟨z,y,vs,r,ob,es,ep,e,c⟩:=x;exact⟨z,y,vs,r,ob,es,ep,k _ _ (.inl rfl) e,c⟩
 |dT kvs=>
  obtain⟨z,y,xs,r,ob,es,ep,e,c⟩:=x;exact⟨z,y,xs,Paired.CB r λp q z=>⟨z.1,ht _ _ z.2.1,z.2.2⟩,ob,es,ep,k _ _ (.inl rfl) e,c⟩
 |set S n=>obtain⟨ob,es,ep,t,e,c⟩:=x;exact⟨ob,es,ep,t,k _ _ (.inl rfl) e,c⟩
 |ins C dx fs=>
  obtain⟨d,z,ne,e,mA,⟨od,es,ep,e2,c⟩,r⟩:=x;exact⟨ho _ d,z,ne,k _ _ (.inl rfl) e,mA,⟨od,es,ep,k _ _ (.inr d) e2,c⟩,r⟩
 |exc C dx fs fr=>
  obtain⟨⟨vs,e,z⟩,q⟩:=x;refine⟨⟨vs,k _ _ (.inl rfl) e,z⟩,?_⟩;rcases q with q|⟨d,ed,d1,z1,ne,mA,⟨od,es,ep,e2,c⟩,r⟩
  .exact .inl q
  .exact .inr ⟨d,ed,ho _ d1,z1,ne,mA,⟨od,es,ep,k _ _ (.inr d1) e2,c⟩,r⟩
 |own y=>obtain⟨ob,e⟩:=x;exact⟨ob,k _ _ (.inl rfl) e⟩
 |xd fs=>obtain⟨mA,⟨od,es,ep,e,c⟩,r⟩:=x;exact⟨mA,⟨od,es,ep,k _ _ (.inl rfl) e,c⟩,r⟩
 |rng lo hi=>obtain⟨t,u,v,e⟩:=x;exact⟨t,u,v,k _ _ (.inl rfl) e⟩
 |kn ob u ih=>obtain⟨e,q⟩:=x;exact⟨k _ _ (.inl rfl) e,ih q⟩
 |tbl ps=>
  have e:h.get? a=some { cls:=.none,data:=.fields ps }:=x;show h'.get? a=some { cls:=.none,data:=.fields ps };exact k a _ (.inl rfl) e
 |met f y=>
  have e:h.get? a=some (W.methodObj (.ref f) (.ref y)):=x;show h'.get? a=some (W.methodObj (.ref f) (.ref y));exact k a _ (.inl rfl) e
 |ext φ=>obtain⟨p,⟨o,e⟩,st⟩:=x;exact⟨st _ _ p λo q=>k _ _ (.inl rfl) q,⟨o,k _ _ (.inl rfl) e⟩,st⟩
def fh.lt (x:fh P w H h)(e:H a=some o):a<h.objs.size:=(x a o e).lt
def fh.fresh (x:fh P w H h)(e:h.objs.size<=a):H a=none:=by
 cases q:H a with
 |none=>rfl
 |some u=>exact absurd (pc (x.lt q) e) (Nat.lt_irrefl _)
def fh.kept (x:fh P w H h)(k:∀ b u,h.get? b=some u->h'.get? b=some u):fh P w H h':=λa o e=>
 (x a o e).d9 (λb u _ q=>k b u q) (λ_ q=>q) λ_ _ q=>q
def fh.laid (x:fh P w H h)(k:∀ b u,h.get? b=some u->h'.get? b=some u) (hp:h.objs.size<=a) (new:aJ P w (upd H a o) h' a o):fh P w (upd H a o) h':=λb u e=>by
 have hn:=x.fresh hp
 by_cases hb:b=a
 .subst hb;rw[aA]at e;cases e;exact new
 .rw[af hb]at e;exact(x b u e).d9 (λc v _ q=>k c v q) (λc q=>by rw[af (aK q hn)];exact q) λc xs q=>by rw[af (aK q hn)];exact q
end
abbrev Rd (H:Hp)(a:Addr)(u:HO):Prop:=H a=some u\/∃ o,H a=some (.kn o u)
variable {P:Program}{w:World}{h:Heap}
def Rd.ok {u:HO}(r:Rd H a u)(x:fh P w H h):aJ P w H h a u:=by
 rcases r with r|⟨o,r⟩
 .exact x a u r
 .obtain⟨_,q⟩:=x a _ r;exact q
abbrev Et:Option HO->Prop
 |some (.lst _)=>True
 |some (.dK _)=>True
 |some (.dT _)=>True
 |some (.set _ _)=>True
 |some (.ins _ _ _)=>True
 |some (.exc _ _ _ _)=>True
 |some (.ext _)=>True
 |_=>False
section
variable {P:Program}{w:World}{H:Hp}{h h':Heap}{x e:Addr}{o':HO}
def fh.write (ok:fh P w H h)(mu:Et (H x))(he:e=x\/H e=some (.own x))(k:∀ b u,b≠e->h.get? b=some u->h'.get? b=some u) (heo:∃ u,h'.get? e=some u)
  (new:aJ P w (upd H x o') h' x o'):fh P w (upd H x o') h':=λb u q=>by
 have nown:∀ c y,H c=some (.own y)->c≠x:=λc y r z=>by subst z;rw[r]at mu;exact mu
 have ntup:∀ c xs,H c=some (.tup xs)->c≠x:=λc xs r z=>by subst z;rw[r]at mu;exact mu
 by_cases hb:b=x
 .subst hb;rw[aA]at q;cases q;exact new
 .rw[af hb]at q
  by_cases hbe:b=e
  .have q':H b=some (.own x):=by
    rcases he with z|z
    .exact absurd (hbe.trans z) hb
    .rw[hbe];exact z
   rw[q]at q';cases q';obtain⟨v,hv⟩:=heo;exact⟨v,by rw[hbe];exact hv⟩
  .refine(ok b u q).d9 (λc v hc r=>k c v ?_ r) (λc r=>by rw[af (nown c b r)];exact r) λc xs r=>by rw[af (ntup c xs r)];exact r
   rcases hc with rfl|hc
   .exact hbe
   .rintro rfl;rcases he with z|z
    .exact nown c b hc z
    .rw[hc]at z;cases z;exact hb rfl
end
structure Un (fs ex:List Addr) (H H':Hp) (h h':Heap):Prop where
 keep:∀ b o,h.get? b=some o->H b=none->b ∉ fs->b ∉ ex->h'.get? b=some o
 slot:∀ b o,h.get? b=some o->H b=none->b ∈ fs->b ∉ ex->∃ sl,h'.get? b=some { o with slots:=sl }
 free:∀ b o,h.get? b=some o->H b=none->b ∉ ex->H' b=none
 there:∀ b o,h.get? b=some o->b ∉ ex->∃ o',h'.get? b=some o'
 tups:∀ b xs,H b=some (.tup xs)->H' b=some (.tup xs)
 frzs:∀ b o u,H b=some (.kn o u)->H' b=some (.kn o u)
 tbls:∀ b ps,H b=some (.tbl ps)->∃ more,H' b=some (.tbl (ps++more))
section
variable {fs fs' ex ex':List Addr}{H H1 H2:Hp}{h h1 h2 h':Heap}{a x e:Addr}{o:HO}
def Un.any (u:Un fs ex H H1 h h1){ob:Obj}(q:h.get? b=some ob)(n:H b=none)(hx:b ∉ ex):∃ sl,h1.get? b=some { ob with slots:=sl }:=by
 by_cases hb:b ∈ fs
 .exact u.slot b ob q n hb hx
 .exact⟨ob.slots,u.keep b ob q n hb hx⟩
def Un.kept (k:∀ b u,h.get? b=some u->h'.get? b=some u):Un fs ex H H h h':=
 ⟨λb ob q _ _ _=>k b ob q,λb ob q _ _ _=>⟨ob.slots,k b ob q⟩,λ_ _ _ n _=>n,λb ob q _=>⟨ob,k b ob q⟩,λ_ _ q=>q,λ_ _ _ q=>q,λ_ ps q=>⟨#[],by rw[q];simp⟩⟩
def Un.refl:Un fs ex H H h h:=Un.kept λ_ _ q=>q
def Un.laid (k:∀ b u,h.get? b=some u->h'.get? b=some u) (hp:h.objs.size<=a) (hn:H a=none):Un fs ex H (upd H a o) h h' where
 keep:=λb u q _ _ _=>k b u q
 slot:=λb u q _ _ _=>⟨u.slots,k b u q⟩
 free:=λb u q n _=>by rw[af (re (pc (ul q) hp))];exact n
 there:=λb u q _=>⟨u,k b u q⟩
 tups:=λb xs q=>by rw[af (aK q hn)];exact q
 frzs:=λb u xs q=>by rw[af (aK q hn)];exact q
 tbls:=λb ps q=>⟨#[],by rw[af (aK q hn),q];simp⟩
def Un.write (mu:Et (H x))(he:e=x\/H e=some (.own x))(k:∀ b u,b≠e->h.get? b=some u->h'.get? b=some u) (heo:∃ u,h'.get? e=some u):Un fs ex H (upd H x o) h h':=by
 have hx:∀ b,H b=none->b≠x:=λb n z=>by subst z;rw[n]at mu;exact mu
 have hb:∀ b,H b=none->b≠e:=λb n z=>by
  subst z;rcases he with r|r
  .exact hx b n r
  .rw[n]at r;cases r
 have hm:∀ b u,H b=some u->¬ Et (some u)->b≠x:=λb u q nm z=>by subst z;rw[q]at mu;exact nm mu
 refine⟨λb u q n _ _=>k b u (hb b n) q,λb u q n _ _=>⟨u.slots,k b u (hb b n) q⟩,λb u q n _=>by rw[af (hx b n)];exact n,λb u q _=>?_,
  λb xs q=>by rw[af (hm b _ q λz=>z)];exact q,λb u xs q=>by rw[af (hm b _ q λz=>z)];exact q,λb ps q=>⟨#[],by rw[af (hm b _ q λz=>z),q];simp⟩⟩
 by_cases hbe:b=e
 .subst hbe;exact heo
 .exact⟨u,k b u hbe q⟩
end
abbrev zH (h:Heap)(H:Hp):List Addr:=(List.range h.objs.size).filter λa=>(H a).isSome
abbrev kD (h:Heap)(H:Hp):Heap:=W.hideAll h (zH h H)
def sg (h:Heap)(H:Hp):(kD h H).objs.size=h.objs.size:=W.hideAll_size _ _
def vE {o:Obj}(e:h.get? b=some o)(n:H b=none):(kD h H).get? b=some o:=
 W.hideAll_get _ e λhm=>by
  have q:(H b).isSome=true:=(List.mem_filter.mp hm).2;rw[n]at q;simp at q
def y0 {o:Obj}(e:(kD h H).get? b=some o):h.get? b=some o/\H b=none:=by
 have e':h.get? b=some o:=W.of_hideAll (zH h H) e;refine⟨e',?_⟩;cases q:H b with
 |none=>rfl
 |some x=>
  have hm:b ∈ zH h H:=List.mem_filter.mpr ⟨mem_range.mpr (ul e'),by simp[q]⟩;have z:(kD h H).get? b=none:=W.hideAll_none (zH h H) hm;rw[z]at e;cases e
structure Mod (K:W.Frag) (mg:HE) (base:Heap):Prop where
 kin:K.In base
 glob:base.Ns mainGlobals mg
 blt:∃ mb,base.Ns builtinsNs mb/\∀ x:Str,x≠"__name__"->mb x=bootBuiltins x
 nolimit:base.NoLimit
/-- the context:a def's body (or a comprehension's block) running. base:fixed through the whole law;s₀,H₀:the entry;outer:the frames whose slots others may change (a def's callers);stack:all frames that run;
  ex:iterators that were made ahead of the entry and are walked here (a comprehension's);fn:the names whose cells were made at the entry (a def:all;a comprehension's block:its own);calm:not within an except bj;pn:Y that every state bears;xe:what is wanted of an exception that leaves the code -/
structure Cx where
 prog:Program
 w:World
 K:W.Frag
 mg:Str->Option Value
 base:Heap
 A:Around
 N:List Str
 s₀:Shared
 H₀:Hp
 env:Env
 outer:List Env
 stack:List Env
 ex:List Addr
 fn:Str->Bool
 calm:Bool
 pn:List (Addr×Obj)
 xe:Value->Shared->Prop
abbrev k6 (l:List Env):List Addr:=l.filterMap (·.frame)
noncomputable abbrev Cx.fs (X:Cx):List Addr:=k6 X.outer
abbrev ES (sc:Scope)(x:Str):Prop:=sc.names.lookup x=some .local\/sc.names.lookup x=some .cell\/sc.names.lookup x=some .free
abbrev Loc (sc:Scope)(x:Str):Prop:=sc.names.lookup x=some .local\/sc.names.lookup x=some .cell
abbrev Look (env:Env)(h:Heap)(m:HE)(x:Str)(u:Value):Prop:=
 (env.kindOf x=some .local/\m x=some u)\/((env.kindOf x=some .cell\/env.kindOf x=some .free)/\∃ c,env.cells.lookup x=some c/\h.IsCell c (some u))
structure Cx.Ok (X:Cx):Prop where
 mod:Mod X.K X.mg X.base
 kind:X.env.scope.kind=.function
 glob:X.env.globals=mainGlobals
 blt:X.env.builtins=builtinsNs
 above:X.s₀.heap.objs.size<=X.env.locals
 inj:∀ x y c,X.env.cells.lookup x=some c->X.env.cells.lookup y=some c->x=y
 has:∀ x,(X.env.kindOf x=some .cell\/X.env.kindOf x=some .free)->∃ c,X.env.cells.lookup x=some c
 cab:∀ x c,X.fn x=true->X.env.cells.lookup x=some c->X.s₀.heap.objs.size<=c
 hd:X.calm=true->X.A.handled=none
 frames:X.A.frames=some X.stack
 stk:X.stack=X.outer\/(X.stack=X.env::X.outer/\X.env.frame=some X.env.locals)
 exf:∀ b ∈ X.ex,b≠X.env.locals/\∀ x c,X.env.cells.lookup x=some c->c≠b
 bs:∀ b o,X.base.get? b=some o->X.s₀.heap.get? b=some o/\X.H₀ b=none
 bsz:X.base.objs.size<=X.s₀.heap.objs.size
 noex:∀ b o,X.base.get? b=some o->b ∉ X.ex
 exfs:∀ b ∈ X.ex,b ∉ X.fs
 ik:X.s₀.heap.FunFrames X.base X.outer
 frf:∀ b ∈ X.fs,X.H₀ b=none
structure Inv (X:Cx) (Y:HD) (U:List (Option V)) (H:Hp) (s:Shared):Prop where
 ok:X.Ok
 os:s.os=X.s₀.os
 bare:AllBare s.gens
 base:Un X.fs X.ex X.H₀ H X.s₀.heap s.heap
 loc:∃ m,s.heap.Ns X.env.locals m/\∀ (i:Nat) (x:Str) (v:V),X.N[i]? =some x->U[i]? =some (some v)->ES X.env.scope x->∃ u,RelV v u/\Look X.env s.heap m x u
 cell:∀ x c,X.env.cells.lookup x=some c->∃ v,s.heap.IsCell c v
 free:H X.env.locals=none
 freeC:∀ x c,X.env.cells.lookup x=some c->H c=none
 pin:∀ p ∈ X.pn++Y,s.heap.get? p.1=some p.2/\H p.1=none/\p.1≠X.env.locals/\p.1 ∉ X.fs/\∀ v,p.2.data≠.cell v
 hok:fh X.prog X.w H s.heap
 len:U.length=X.N.length
variable {x:Str}{g':Array GenState}{ch:List Addr}{i:Nat}{M:Model}{A:Around}{E:HC}{v:V}
section
variable {X:Cx}{Y:HD}{U:List (Option V)}{H H':Hp}{s:Shared}{h':Heap}
def Cx.Ok.F6 (ok:X.Ok){o:Obj}(e:X.base.get? b=some o):b ∉ X.fs:=λhb=>by
 have:=(ok.ik.mem hb).1;rw[e]at this;cases this
def Inv.bs (I:Inv X Y U H s):∀ b o,X.base.get? b=some o->s.heap.get? b=some o/\H b=none:=λb o e=>
 ⟨I.base.keep b o (I.ok.bs b o e).1 (I.ok.bs b o e).2 (I.ok.F6 e) (I.ok.noex b o e),I.base.free b o (I.ok.bs b o e).1 (I.ok.bs b o e).2 (I.ok.noex b o e)⟩
def Inv.bk (I:Inv X Y U H s):∀ b o,X.base.get? b=some o->s.heap.get? b=some o:=λb o e=>(I.bs b o e).1
def Inv.mod (I:Inv X Y U H s):Mod X.K X.mg X.base:=I.ok.mod
def Inv.bF (I:Inv X Y U H s):X.K.In s.heap:=I.ok.mod.kin.keeps I.bk
def Inv.lt (I:Inv X Y U H s):X.env.locals<s.heap.objs.size:=let⟨_,hn,_⟩:=I.loc;hn.lt
def Inv.sz (I:Inv X Y U H s):X.s₀.heap.objs.size<=s.heap.objs.size:=Nat.le_trans I.ok.above (Nat.le_of_lt I.lt)
def Inv.FG (I:Inv X Y U H s)(h:s.heap.objs.size<=a):a ∉ X.fs:=λhb=>by
 obtain⟨_,o,ho,_⟩:=I.ok.ik.mem hb;exact absurd (pc (ul ho) (Nat.le_trans I.sz h)) (Nat.lt_irrefl _)
def Inv.vo (I:Inv X Y U H s):∀ x c,X.env.cells.lookup x=some c->c≠X.env.locals:=λx c e z=>by
 obtain⟨v,o,ho,hd⟩:=I.cell x c e;obtain⟨m,⟨o',es,ep,ho',hd',_⟩,_⟩:=I.loc;rw[z,ho']at ho;cases ho;rw[hd']at hd;cases hd
def Inv.ik (I:Inv X Y U H s):s.heap.FunFrames X.base X.outer:=by
 have all:∀ (l:List Env),(∀ b ∈ k6 l,b ∈ X.fs)->X.s₀.heap.FunFrames X.base l->s.heap.FunFrames X.base l:=by
  intro l
  induction l with
  |nil=>intro _ _;trivial
  |cons env r ih=>
   intro hs hl;obtain⟨hk,⟨L,o,hf,hn,ho,hd⟩,hr⟩:=hl;have hL:L ∈ X.fs:=hs L (by unfold k6;rw[filterMap_cons,hf];exact lw);obtain⟨sl,e⟩:=I.base.slot L o ho (I.ok.frf L hL) hL λz=>I.ok.exfs L z hL
   exact⟨hk,⟨L,_,hf,hn,e,hd⟩,ih (λb hb=>hs b (by unfold k6;rw[filterMap_cons,hf];exact f8 _ hb)) hr⟩
 exact all X.outer (λ_ hb=>hb) I.ok.ik
def Inv.stack (I:Inv X Y U H s):s.heap.FunFrames X.base X.stack:=by
 rcases I.ok.stk with e|⟨e,hf⟩
 .rw[e];exact I.ik
 .rw[e];obtain⟨m,hn,_⟩:=I.loc;refine .cons (by rw[I.ok.kind];decide) hf hn ?_ I.ik;exact Heap.get?_none_of_le (Nat.le_trans I.ok.bsz I.ok.above)
def Inv.gw (I:Inv X Y U H s):∀ b ∈ k6 X.stack,b ∈ X.env.locals::X.fs:=λb hb=>by
 rcases I.ok.stk with e|⟨e,hf⟩
 .rw[e]at hb;exact f8 _ hb
 .rw[e]at hb;unfold k6 at hb;rw[filterMap_cons,hf]at hb;exact hb
def Inv.lM (I:Inv X Y U H s):∀ b ∈ k6 X.stack,H b=none:=λb hb=>by
 rcases mo.mp (I.gw b hb) with e|hb
 .rw[e];exact I.free
 .obtain⟨_,o,ho,_⟩:=I.ok.ik.mem hb;exact I.base.free b o ho (I.ok.frf b hb) λz=>I.ok.exfs b z hb
def Inv.step {t':Nat}{d':Drawn}(I:Inv X Y U H s)
  (hch:∀ b ∈ ch,(b ∈ X.ex\/X.s₀.heap.objs.size<=b)/\b≠X.env.locals/\(∀ x c,X.env.cells.lookup x=some c->c≠b)/\∀ p ∈ X.pn++Y,p.1≠b)
  (keep:∀ b o,b≠X.env.locals->b ∉ X.fs->b ∉ ch->s.heap.get? b=some o->H b=none->h'.get? b=some o)
  (slot:∀ b o,b≠X.env.locals->b ∈ X.fs->b ∉ ch->s.heap.get? b=some o->H b=none->∃ sl,h'.get? b=some { o with slots:=sl }) (free:∀ b o,b ∉ ch->s.heap.get? b=some o->H b=none->H' b=none)
  (there:∀ b o,b ∉ ch->s.heap.get? b=some o->∃ o',h'.get? b=some o')
  (tups:∀ b xs,H b=some (.tup xs)->H' b=some (.tup xs)) (frzs:∀ b o u,H b=some (.kn o u)->H' b=some (.kn o u)) (tbls:∀ b ps,H b=some (.tbl ps)->∃ more,H' b=some (.tbl (ps++more)))
  (ns:∀ m,s.heap.Ns X.env.locals m->h'.Ns X.env.locals m) (hok:fh X.prog X.w H' h') (hg:AllBare g'):
  Inv X Y U H' { s with heap:=h',gens:=g',drawn:=d',toks:=t' }:=by
 have neL:∀ b o,X.s₀.heap.get? b=some o->b≠X.env.locals:=λb o e=>re (pc (ul e) I.ok.above)
 have neC:∀ b o,X.s₀.heap.get? b=some o->b ∉ X.ex->b ∉ ch:=λb o e hx hb=>by
  rcases(hch b hb).1 with z|z
  .exact hx z
  .exact absurd (pc (ul e) z) (Nat.lt_irrefl _)
 have cellK:∀ x c,X.env.cells.lookup x=some c->∀ v,s.heap.IsCell c v->h'.IsCell c v:=λx c e v ⟨o,ho,hd⟩=>by
  have nch:c ∉ ch:=λz=>(hch c z).2.2.1 x c e rfl
  by_cases hc:c ∈ X.fs
  .obtain⟨sl,q⟩:=slot c o (I.vo x c e) hc nch ho (I.freeC x c e);exact⟨_,q,hd⟩
  .exact⟨o,keep c o (I.vo x c e) hc nch ho (I.freeC x c e),hd⟩
 refine⟨I.ok,I.os,hg,⟨λb o e n hb hx=>?_,λb o e n hb hx=>?_,λb o e n hx=>?_,λb o e hx=>?_,λb xs e=>tups b xs (I.base.tups b xs e),λb o xs e=>frzs b o xs (I.base.frzs b o xs e),λb ps e=>?_⟩,?_,λx c e=>?_,?_,λx c e=>?_,λp hp=>?_,hok,I.len⟩
 .exact keep b o (neL b o e) hb (neC b o e hx) (I.base.keep b o e n hb hx) (I.base.free b o e n hx)
 .obtain⟨sl,e1⟩:=I.base.slot b o e n hb hx;obtain⟨sl',e2⟩:=slot b _ (neL b o e) hb (neC b o e hx) e1 (I.base.free b o e n hx);exact⟨sl',e2⟩
 .obtain⟨o',e1⟩:=I.base.there b o e hx;exact free b o' (neC b o e hx) e1 (I.base.free b o e n hx)
 .obtain⟨o',e1⟩:=I.base.there b o e hx;exact there b o' (neC b o e hx) e1
 .obtain⟨m1,e1⟩:=I.base.tbls b ps e;obtain⟨m2,e2⟩:=tbls b _ e1;exact⟨m1++m2,by rw[e2,Array.append_assoc]⟩
 .obtain⟨m,hn,hl⟩:=I.loc;refine⟨m,ns m hn,λi x v e1 e2 e3=>?_⟩;obtain⟨u,r,l⟩:=hl i x v e1 e2 e3;refine⟨u,r,?_⟩;rcases l with l|⟨k,c,e,z⟩
  .exact .inl l
  .exact .inr ⟨k,c,e,cellK x c e _ z⟩
 .obtain⟨v,z⟩:=I.cell x c e;exact⟨v,cellK x c e v z⟩
 .obtain⟨m,⟨o,_,_,ho,_⟩,_⟩:=I.loc;exact free _ o (λz=>(hch _ z).2.1 rfl) ho I.free
 .obtain⟨v,o,ho,hd⟩:=I.cell x c e;exact free c o (λz=>(hch c z).2.2.1 x c e rfl) ho (I.freeC x c e)
 .obtain⟨e,n,ne,nf,d⟩:=I.pin p hp;have nch:p.1 ∉ ch:=λz=>(hch p.1 z).2.2.2 p hp rfl
  exact⟨keep p.1 p.2 ne nf nch e n,free p.1 p.2 nch e n,ne,nf,d⟩
def Inv.un {t':Nat}(I:Inv X Y U H s)(u:Un X.fs [] H H' s.heap h')(hok:fh X.prog X.w H' h'):Inv X Y U H' { s with heap:=h',toks:=t' }:=by
 obtain⟨m,⟨o,es,ep,ho,r⟩,_⟩:=id I.loc;obtain⟨sl,hL⟩:=u.any ho I.free (by simp);exact I.step (g':=s.gens) (d':=s.drawn) (ch:=[]) (λ_ z=>nomatch z) (λb o _ hb _ e n=>u.keep b o e n hb (by simp)) (λb o _ hb _ e n=>u.slot b o e n hb (by simp)) (λb o _ e n=>u.free b o e n (by simp)) (λb o _ e=>u.there b o e (by simp)) u.tups u.frzs u.tbls (λm' hm=>by
  obtain⟨o',es',ep',ho',r'⟩:=hm;rw[ho]at ho';cases ho';exact⟨_,es',ep',hL,r'⟩) hok I.bare
def Inv.call {t':Nat}{d':Drawn}(I:Inv X Y U H s)(u:Un (k6 X.stack) ch H H' s.heap h')(hok:fh X.prog X.w H' h')(hg:AllBare g')
  (hch:∀ b ∈ ch,(b ∈ X.ex\/X.s₀.heap.objs.size<=b)/\b≠X.env.locals/\(∀ x c,X.env.cells.lookup x=some c->c≠b)/\∀ p ∈ X.pn++Y,p.1≠b):
  Inv X Y U H' { s with heap:=h',gens:=g',drawn:=d',toks:=t' }:=by
 obtain⟨m,⟨o,es,ep,ho,r⟩,_⟩:=id I.loc;obtain⟨sl,hL⟩:=u.any ho I.free λz=>(hch _ z).2.1 rfl
 exact I.step (ch:=ch) hch (λb o hL hb hc e n=>u.keep b o e n (λz=>(mo.mp (I.gw b z)).elim hL hb) hc) (λb o _ _ hc e n=>u.any e n hc) (λb o hc e n=>u.free b o e n hc) (λb o hc e=>u.there b o e hc) u.tups u.frzs u.tbls (λm' hm=>by
  obtain⟨o',es',ep',ho',r'⟩:=hm;rw[ho]at ho';cases ho';exact⟨_,es',ep',hL,r'⟩) hok hg
def Inv.turned {t':Nat}{it:Addr}(I:Inv X Y U H s)(k:∀ b o,b≠it->s.heap.get? b=some o->h'.get? b=some o) (hn:H it=none) (hL:it≠X.env.locals)
  (h1:it ∈ X.ex\/X.s₀.heap.objs.size<=it) (h2:∀ x c,X.env.cells.lookup x=some c->c≠it) (h3:∀ p ∈ X.pn++Y,p.1≠it):Inv X Y U H { s with heap:=h',toks:=t' }:=by
 have nit:∀ b u,H b=some u->b≠it:=λb u e z=>by rw[z,hn]at e;cases e
 refine I.step (g':=s.gens) (d':=s.drawn) (ch:=[it]) (λb hb=>?_) (λb o _ _ hc e _=>k b o (λz=>hc (by simp[z])) e) (λb o _ _ hc e _=>⟨o.slots,k b o (λz=>hc (by simp[z])) e⟩) (λ_ _ _ _ n=>n)
  (λb o hc e=>⟨o,k b o (λz=>hc (by simp[z])) e⟩) (λ_ _ e=>e) (λ_ _ _ e=>e) (λb ps e=>⟨#[],by rw[e];simp⟩) (λm hm=>?_) (λb u e=>?_) I.bare
 .have e:b=it:=by simpa using hb
  subst e;exact⟨h1,hL,h2,h3⟩
 .obtain⟨o,es,ep,ho,r⟩:=hm;exact⟨o,es,ep,k _ o (Ne.symm hL) ho,r⟩
 .refine(I.hok b u e).d9 (λc v hc q=>k c v ?_ q) (λ_ q=>q) λ_ _ q=>q
  rcases hc with z|z
  .rw[z];exact nit b u e
  .exact nit c _ z
def Inv.tok (I:Inv X Y U H s)(t:Nat):Inv X Y U H { s with toks:=t }:=I.un (h':=s.heap) (t':=t) Un.refl I.hok
def Inv.kept {t':Nat}(I:Inv X Y U H s)(k:∀ b u,s.heap.get? b=some u->h'.get? b=some u):Inv X Y U H { s with heap:=h',toks:=t' }:=I.un (Un.kept k) (I.hok.kept k)
def Inv.laid {t':Nat}(I:Inv X Y U H s)(k:∀ b u,s.heap.get? b=some u->h'.get? b=some u) (hp:s.heap.objs.size<=a) (new:aJ X.prog X.w (upd H a o) h' a o):
  Inv X Y U (upd H a o) { s with heap:=h',toks:=t' }:=I.un (Un.laid k hp (I.hok.fresh hp)) (I.hok.laid k hp new)
def Inv.write {x e:Addr}{t':Nat}(I:Inv X Y U H s)(mu:Et (H x))(he:e=x\/H e=some (.own x))(k:∀ b u,b≠e->s.heap.get? b=some u->h'.get? b=some u) (heo:∃ u,h'.get? e=some u)
  (new:aJ X.prog X.w (upd H x o) h' x o):Inv X Y U (upd H x o) { s with heap:=h',toks:=t' }:=I.un (Un.write mu he k heo) (I.hok.write mu he k heo new)
def Inv.lr {pins':HD}(I:Inv X Y U H s)(h:∀ p ∈ pins',s.heap.get? p.1=some p.2/\H p.1=none/\p.1≠X.env.locals/\p.1 ∉ X.fs/\∀ v,p.2.data≠.cell v):Inv X pins' U H s:=
 ⟨I.ok,I.os,I.bare,I.base,I.loc,I.cell,I.free,I.freeC,λp hp=>(mem_append.mp hp).elim (λz=>I.pin p (mem_append_left _ z)) (h p),I.hok,I.len⟩
def jq {N:List Str}(hN:N.Nodup){j:Nat}(a:N[i]? =some x)(b:N[j]? =some x):i=j:=by
 obtain⟨h1,e1⟩:=tz.mp a;obtain⟨h2,e2⟩:=tz.mp b;exact(List.getElem_inj hN).mp (e1.trans e2.symm)
variable {Q:HB}
def j4 (I:Inv X Y U H s)(hN:X.N.Nodup)(hi:X.N[i]? =some x)(hx:Loc X.env.scope x)(r:RelV v u)
  (h:∀ s',Inv X Y (U.set i (some v)) H s'->(∃ a,Heap.SameBut a s.heap s'.heap/\(a=X.env.locals\/X.env.cells.lookup x=some a))->Q () s') (hf:X.fn x=true\/X.env.scope.names.lookup x=some .local:=by first|exact .inl rfl|exact .inr rfl|assumption):wpAny M A (storeName X.env x u) Q E s:=by
 obtain⟨m,hn,hl⟩:=id I.loc;have hcls:(X.env.scope.kind ==.class||(X.env.scope.kind ==.module&&X.env.locals != X.env.globals))=false:=by rw[I.ok.kind];rfl
 have hiσ:i<U.length:=by rw[I.len];exact(tz.mp hi).1
 have vo:=I.vo;have tracked:∀ {a:Addr}{h':Heap},(∃ o,s.heap.get? a=some o/\H a=none)->Heap.SameBut a s.heap h'->fh X.prog X.w H h':=λ{a h'} ha hs b ob e=>by
  obtain⟨_,_,hfree⟩:=ha;refine(I.hok b ob e).d9 (λc w' hc q=>(hs.2 c ?_).trans q) (λ_ q=>q) λ_ _ q=>q
  rintro rfl;rcases hc with rfl|hc
  .rw[hfree]at e;cases e
  .rw[hfree]at hc;cases hc
 rcases hx with hk|hk
 .refine wpAny_storeName_local hk hn (λh' hn' hs=>?_) hcls;obtain⟨oL,_,_,hoL,_⟩:=id hn;refine h _ ⟨I.ok,I.os,I.bare,⟨λb o e n hb hx=>?_,λb o e n hb hx=>?_,I.base.free,λb o e hx=>?_,I.base.tups,I.base.frzs,I.base.tbls⟩,⟨_,hn',λj y v' e1 e2 e3=>?_⟩,λy c e=>?_,I.free,I.freeC,λp hp=>?_,tracked ⟨oL,hoL,I.free⟩ hs,by simpa using I.len⟩ ⟨_,hs,.inl rfl⟩
  .exact(hs.2 b (re (pc (ul e) I.ok.above))).trans (I.base.keep b o e n hb hx)
  .obtain⟨sl,e1⟩:=I.base.slot b o e n hb hx;exact⟨sl,(hs.2 b (re (pc (ul e) I.ok.above))).trans e1⟩
  .obtain⟨o',e1⟩:=I.base.there b o e hx;exact⟨o',(hs.2 b (re (pc (ul e) I.ok.above))).trans e1⟩
  .by_cases hj:j=i
   .subst hj;rw[hi]at e1;cases e1;rw[getElem?_set_self hiσ]at e2;cases e2;exact⟨u,r,.inl ⟨hk,by simp⟩⟩
   .rw[getElem?_set_ne (Ne.symm hj)]at e2;obtain⟨u',r',q⟩:=hl j y v' e1 e2 e3;refine⟨u',r',?_⟩;rcases q with⟨k,e⟩|⟨k,c,e,z⟩
    .refine .inl ⟨k,?_⟩;have:y≠x:=λe=>hj (jq hN e1 (e▸hi))
     simp[this,e]
    .exact .inr ⟨k,c,e,z.sameBut hs (vo y c e)⟩
  .obtain⟨w',z⟩:=I.cell y c e;exact⟨w',z.sameBut hs (vo y c e)⟩
  .obtain⟨e,n,ne,nf,d⟩:=I.pin p hp;exact⟨(hs.2 p.1 ne).trans e,n,ne,nf,d⟩
 .have hfn:X.fn x=true:=by
   rcases hf with z|z
   .exact z
   .rw[z]at hk;cases hk
  obtain⟨c,hc⟩:=I.ok.has x (.inl hk);obtain⟨w',z⟩:=I.cell x c hc;refine wpAny_storeName_cell I.ok.kind hk hc z (λh' hc' hs=>?_);obtain⟨oc,hoc,hocd⟩:=id z;refine h { s with heap:=h' } ⟨I.ok,I.os,I.bare,⟨λb o e n hb hx=>?_,λb o e n hb hx=>?_,I.base.free,λb o e hx=>?_,I.base.tups,I.base.frzs,I.base.tbls⟩,⟨m,hn.sameBut hs (Ne.symm (vo x c hc)),λj y v' e1 e2 e3=>?_⟩,λy c' e=>?_,I.free,I.freeC,λp hp=>?_,tracked ⟨oc,hoc,I.freeC x c hc⟩ hs,by simpa using I.len⟩ ⟨c,hs,.inr hc⟩
  .exact(hs.2 b (re (pc (ul e) (I.ok.cab x c hfn hc)))).trans (I.base.keep b o e n hb hx)
  .obtain⟨sl,e1⟩:=I.base.slot b o e n hb hx;exact⟨sl,(hs.2 b (re (pc (ul e) (I.ok.cab x c hfn hc)))).trans e1⟩
  .obtain⟨o',e1⟩:=I.base.there b o e hx;exact⟨o',(hs.2 b (re (pc (ul e) (I.ok.cab x c hfn hc)))).trans e1⟩
  .by_cases hj:j=i
   .subst hj;rw[hi]at e1;cases e1;rw[getElem?_set_self hiσ]at e2;cases e2;exact⟨u,r,.inr ⟨.inl hk,c,hc,hc'⟩⟩
   .rw[getElem?_set_ne (Ne.symm hj)]at e2;obtain⟨u',r',q⟩:=hl j y v' e1 e2 e3;refine⟨u',r',?_⟩;rcases q with q|⟨k,c',e,z'⟩
    .exact .inl q
    .refine .inr ⟨k,c',e,z'.sameBut hs ?_⟩;rintro rfl;exact hj (jq hN e1 (I.ok.inj _ _ _ e hc▸hi))
  .by_cases hcc:c'=c
   .subst hcc;exact⟨_,hc'⟩
   .obtain⟨w2,z2⟩:=I.cell y c' e;exact⟨w2,z2.sameBut hs hcc⟩
  .obtain⟨e,n,ne,nf,d⟩:=I.pin p hp;refine⟨(hs.2 p.1 ?_).trans e,n,ne,nf,d⟩;intro q;rw[q,hoc]at e;have q':oc=p.2:=Option.some.inj e;exact d w' (by rw[<-q'];exact hocd)
def fq (I:Inv X Y U H s)(hN:X.N.Nodup)(hi:X.N[i]? =some x)(hx:Loc X.env.scope x)(r:RelV v u)
  (h:∀ s',Inv X Y (U.set i (some v)) H s'->Q () s') (hf:X.fn x=true\/X.env.scope.names.lookup x=some .local:=by first|exact .inl rfl|exact .inr rfl|assumption):wpAny M A (storeName X.env x u) Q E s:=
 j4 I hN hi hx r (λs' I' _=>h s' I') hf
def Inv.pZ {s':Shared}(I:Inv X Y U H s)(ho:s'.os=s.os)(u:Un (k6 X.stack) ch H H' s.heap s'.heap)(hok:fh X.prog X.w H' s'.heap)(hg:AllBare s'.gens)
  (hch:∀ b ∈ ch,(b ∈ X.ex\/X.s₀.heap.objs.size<=b)/\b≠X.env.locals/\(∀ x c,X.env.cells.lookup x=some c->c≠b)/\∀ p ∈ X.pn++Y,p.1≠b):Inv X Y U H' s':=by
 obtain⟨h',g',d',t',o'⟩:=s';have e:o'=s.os:=ho;subst e;exact I.call (g':=g') (t':=t') (d':=d') u hok hg hch
end
@[reducible]def XK:=Addr->Hp->Prop
@[reducible]def St:=List (Option V)
@[reducible]def VK:=V->Hp->Prop
@[reducible]def TE:=St->Hp->VK->Prop
@[reducible]def TT:=St->Hp->(Bool->Hp->Prop)->Prop
@[reducible]def TA:=St->Hp->(List V->Hp->Prop)->Prop
structure Ends where
 nx:St->Hp->Prop
 rt:VK
 bk:St->Hp->Prop:=λ_ _=>False
 ct:St->Hp->Prop:=λ_ _=>False
@[reducible]def TS:=Ends->St->Hp->Prop
abbrev EP (X:Cx)(Y:HD)(U:St)(Q:VK)(u:Value)(s':Shared):Prop:=∃ v H',Inv X Y U H' s'/\RelV v u/\Q v H'
abbrev TP (X:Cx)(Y:HD)(U:St)(Q:Bool->Hp->Prop)(b:Bool)(s':Shared):Prop:=∃ H',Inv X Y U H' s'/\Q b H'
abbrev AP (X:Cx)(Y:HD)(U:St)(Q:List V->Hp->Prop)(us:List Value)(s':Shared):Prop:=∃ vs H',Inv X Y U H' s'/\Vals vs us/\Q vs H'
abbrev SP (X:Cx)(Y:HD)(D:Ends)(f:Flow)(s':Shared):Prop:=
 match f with
 | .next=>∃ σ' H',Inv X Y σ' H' s'/\D.nx σ' H'
 | .brk=>∃ σ' H',Inv X Y σ' H' s'/\D.bk σ' H'
 | .cont=>∃ σ' H',Inv X Y σ' H' s'/\D.ct σ' H'
 | .ret u=>∃ v σ' H',Inv X Y σ' H' s'/\RelV v u/\D.rt v H'
abbrev PE (X:Cx)(e:Expr)(t:TE):Prop:=
 ∀ (Y:HD) (s:Shared) (U:St) (H:Hp) (Q:VK),Inv X Y U H s->t U H Q->wpAny (model X.prog X.w) X.A (eval e X.env) (EP X Y U Q) X.xe s
abbrev PT (X:Cx)(e:Expr)(t:TT):Prop:=
 ∀ (Y:HD) (s:Shared) (U:St) (H:Hp) (Q:Bool->Hp->Prop),Inv X Y U H s->t U H Q->wpAny (model X.prog X.w) X.A (isTrue e X.env (eval e X.env)) (TP X Y U Q) X.xe s
abbrev PW (X:Cx)(e:Expr)(t:TT):Prop:=
 ∀ (whole:Sem Value) (Y:HD) (s:Shared) (U:St) (H:Hp) (Q:Bool->Hp->Prop),Inv X Y U H s->t U H Q->wpAny (model X.prog X.w) X.A (isTrue e X.env whole) (TP X Y U Q) X.xe s
variable {e:Expr}
def PW.pt {X:Cx}{t:TT}(h:PW X e t):PT X e t:=h _
abbrev PA (X:Cx)(es:List Expr)(t:TA):Prop:=
 ∀ (pos:Pos) (Y:HD) (s:Shared) (U:St) (H:Hp) (Q:List V->Hp->Prop),Inv X Y U H s->t U H Q->wpAny (model X.prog X.w) X.A (spliced (backTo pos (bv es X.env))) (AP X Y U Q) X.xe s
abbrev PS (X:Cx)(st:Stmt)(t:TS):Prop:=
 ∀ (Y:HD) (s:Shared) (U:St) (H:Hp) (D:Ends),Inv X Y U H s->t D U H->wpAny (model X.prog X.w) X.A (exec st X.env) (SP X Y D) X.xe s
abbrev xw (X:Cx)(st:List Stmt)(t:TS):Prop:=
 ∀ (Y:HD) (s:Shared) (U:St) (H:Hp) (D:Ends),Inv X Y U H s->t D U H->wpAny (model X.prog X.w) X.A (execs st X.env) (SP X Y D) X.xe s
variable {s:Shared}
def aG {α:Type}{t:Sem α}{Q Q':α->Shared->Prop}(h:wpAny M A t Q E s)(hQ:∀ a s,Q a s->Q' a s):wpAny M A t Q' E s:=wpAny_mono h hQ λ_ _ x=>x
variable {Q:HC}{Y:HD}{U:St}{c:Expr}
section
variable {X:Cx}
abbrev Fn (i:Nat):TE:=λU H Q=>∃ v,U[i]? =some (some v)/\Q v H
abbrev tC (v:V):TE:=λ_ H Q=>Q v H
def Az {pos:Pos}(hN:X.N[i]? =some x)(hv:ES X.env.scope x)(hd:(x ==("__debug__":Str))=false:=by decide) (hcd:(x ==("__classdict__":Str))=false:=by decide):PE X (.Name x pos) (Fn i):=by
 intro Y s U H Q I h;obtain⟨v,e,h⟩:=h;obtain⟨m,hn,hl⟩:=I.loc;obtain⟨u,r,l⟩:=hl i x v hN e hv;have fin:EP X Y U Q u s:=⟨v,H,I,r,h⟩;rcases l with⟨hk,hm⟩|⟨hk,c,hc,hcell⟩
 .exact wpAny_Name (wpAny_loadName_local I.ok.kind hk hn hm fin) hd
 .rcases hk with hk|hk
  .exact wpAny_Name (wpAny_loadName_cell I.ok.kind hk hc hcell fin) hd
  .exact wpAny_Name (wpAny_loadName_free I.ok.kind hk hc hcell fin hcd) hd
def Bw {i j pos}:PE X (.Constant (.int i) j pos) (tC (.int i)):=λ_ _ _ H _ I h=>wpAny_Constant_int ⟨.int i,H,I.tok _,⟨_,rfl⟩,h⟩
def DW {b j pos}:PE X (.Constant (.bool b) j pos) (tC (.bl b)):=λ_ _ _ H _ I h=>Constant_bool ⟨.bl b,H,I,rfl,h⟩
def Cb {j pos}:PE X (.Constant .none j pos) (tC .non):=λ_ _ _ H _ I h=>Constant_none ⟨.non,H,I,rfl,h⟩
def tT {x j pos}:PE X (.Constant (.str x) j pos) (tC (.str x)):=λ_ _ _ H _ I h=>Calls.Constant_str ⟨.str x,H,I.tok _,⟨_,rfl⟩,h⟩
abbrev Gl (X:Cx)(x:Str):Prop:=X.env.kindOf x=some .globalImplicit
def ba {pos:Pos}(I:Inv X Y U H s)(hg:Gl X x)(hm:X.mg x=some u)(h:Q u s)
  (hd:(x ==("__debug__":Str))=false:=by decide):wpAny (model X.prog X.w) X.A (eval (.Name x pos) X.env) Q E s:=
 Calls.Name_function_global I.ok.kind hg (Calls.loadGlobal_global (by rw[I.ok.glob];exact I.mod.glob.keeps I.bk) hm h) hd
def jb {pos:Pos}(I:Inv X Y U H s)(hg:Gl X x)(hm:X.mg x=none)(hv:bootBuiltins x=some u)(h:Q u s)
  (hn:x≠"__name__":=by decide) (hd:(x ==("__debug__":Str))=false:=by decide):wpAny (model X.prog X.w) X.A (eval (.Name x pos) X.env) Q E s:=by
 obtain⟨mb,h1,h2⟩:=I.mod.blt;exact Calls.Name_function_global I.ok.kind hg (Calls.loadGlobal_builtin (by rw[I.ok.glob];exact I.mod.glob.keeps I.bk) hm (by rw[I.ok.blt];exact h1.keeps I.bk) ((h2 x hn).trans hv) h) hd
def qh {pos:Pos}(hg:Gl X x)(hm:X.mg x=some u)(r:RelV v u)(hd:(x ==("__debug__":Str))=false:=by decide):PE X (.Name x pos) (tC v):=
 λ_ _ _ H _ I h=>ba I hg hm ⟨v,H,I,r,h⟩ hd
def yq {pos:Pos}(hg:Gl X x)(hm:X.mg x=none)(hv:bootBuiltins x=some u)(r:RelV v u)(hn:x≠"__name__":=by decide) (hd:(x ==("__debug__":Str))=false:=by decide):PE X (.Name x pos) (tC v):=
 λ_ _ _ H _ I h=>jb I hg hm hv ⟨v,H,I,r,h⟩ hn hd
variable {a b:Expr}{ta tb:TE}{pos:Pos}
variable {tA tB':TT}{rest:List Expr}
abbrev E9 (t u:TT):TT:=λU H Q=>t U H λc H1=>if c=true then u U H1 Q else Q false H1
abbrev GY (t u:TT):TT:=λU H Q=>t U H λc H1=>if c=true then Q true H1 else u U H1 Q
abbrev FN (t:TT):TT:=λU H Q=>t U H λc H1=>Q (!c) H1
def xx (ha:PT X a tA):PW X (.BoolOp .And [a] pos) tA:=by
 intro wh Y s U H Q I h;refine isTrue_and (aG (ha Y s U H Q I h) λc s1 e=>?_);cases c with
 |true=>exact isTrue_and_nil e
 |false=>exact e
def Be (ha:PT X a tA):PW X (.BoolOp .Or [a] pos) tA:=by
 intro wh Y s U H Q I h;refine isTrue_or (aG (ha Y s U H Q I h) λc s1 e=>?_);cases c with
 |false=>exact isTrue_or_nil e
 |true=>exact e
def AL (ha:PT X a tA)(hb:PW X (.BoolOp .And (b::rest) pos) tB'):PW X (.BoolOp .And (a::b::rest) pos) (E9 tA tB'):=by
 intro wh Y s U H Q I h;refine isTrue_and (aG (ha Y s U H _ I h) λc s1 ⟨H1,I1,q1⟩=>?_);cases c with
 |true=>exact hb wh Y s1 U H1 Q I1 q1
 |false=>exact⟨H1,I1,q1⟩
def Ds (ha:PT X a tA)(hb:PW X (.BoolOp .Or (b::rest) pos) tB'):PW X (.BoolOp .Or (a::b::rest) pos) (GY tA tB'):=by
 intro wh Y s U H Q I h;refine isTrue_or (aG (ha Y s U H _ I h) λc s1 ⟨H1,I1,q1⟩=>?_);cases c with
 |true=>exact⟨H1,I1,q1⟩
 |false=>exact hb wh Y s1 U H1 Q I1 q1
def A4 (ha:PT X a tA):PT X (.UnaryOp .Not a pos) (FN tA):=by
 intro Y s U H Q I h;exact isTrue_not (ha Y s U H (λc H1=>Q (!c) H1) I h)
abbrev DF (ta tb:TE):TE:=λU H Q=>ta U H λx H1=>∃ c,x=.bl c/\if c=true then tb U H1 Q else Q (.bl false) H1
abbrev FQ (ta tb:TE):TE:=λU H Q=>ta U H λx H1=>∃ c,x=.bl c/\if c=true then Q (.bl true) H1 else tb U H1 Q
abbrev Dj (ta:TE):TE:=λU H Q=>ta U H λx H1=>∃ c,x=.bl c/\Q (.bl (!c)) H1
def vg {op}{t:TE}(h:PE X a t):PE X (.BoolOp op [a] pos) t:=λY s U H Q I hw=>BoolOp_one (h Y s U H Q I hw)
def A8 (ha:PE X a ta)(hb:PE X (.BoolOp .And (b::rest) pos) tb):PE X (.BoolOp .And (a::b::rest) pos) (DF ta tb):=by
 intro Y s U H Q I h;refine BoolOp_and (aG (ha Y s U H _ I h) λv s1 ⟨x,H1,I1,r1,q1⟩=>?_);obtain⟨c,rfl,q1⟩:=q1;cases r1;refine bn ?_;cases c with
 |true=>exact hb Y s1 U H1 Q I1 q1
 |false=>exact⟨.bl false,H1,I1,rfl,q1⟩
def Du (ha:PE X a ta)(hb:PE X (.BoolOp .Or (b::rest) pos) tb):PE X (.BoolOp .Or (a::b::rest) pos) (FQ ta tb):=by
 intro Y s U H Q I h;refine BoolOp_or (aG (ha Y s U H _ I h) λv s1 ⟨x,H1,I1,r1,q1⟩=>?_);obtain⟨c,rfl,q1⟩:=q1;cases r1;refine bn ?_;cases c with
 |false=>exact hb Y s1 U H1 Q I1 q1
 |true=>exact⟨.bl true,H1,I1,rfl,q1⟩
def By (ha:PE X a ta):PE X (.UnaryOp .Not a pos) (Dj ta):=by
 intro Y s U H Q I h;refine UnaryOp_ (aG (ha Y s U H _ I h) λv s1 ⟨x,H1,I1,r1,q1⟩=>?_);obtain⟨c,rfl,q1⟩:=q1;cases r1;exact not_of (bn ⟨.bl (!c),H1,I1,rfl,q1⟩)
abbrev G8 (t:TT)(ta tb:TE):TE:=λU H Q=>t U H λc H1=>if c=true then ta U H1 Q else tb U H1 Q
def vR (hc:PT X c tA)(ha:PE X a ta)(hb:PE X b tb):PE X (.IfExp c a b pos) (G8 tA ta tb):=by
 intro Y s U H Q I h;refine wpAny_IfExp (aG (hc Y s U H _ I h) λd s1 ⟨H1,I1,q1⟩=>?_);cases d with
 |true=>exact ha Y s1 U H1 Q I1 q1
 |false=>exact hb Y s1 U H1 Q I1 q1
end
abbrev aV (K:W.Frag)(H:Hp)(a:Addr)(xs:List V):Prop:=
 Rd H a (.lst xs)\/
  ∃ (o:Obj) (its:Array Value) (n:Nat),K.lookup a=some o/\o.cls=.type "list"/\o.dict=none/\o.data=.seq its n/\its.size<=ce/\Vals xs its.toList
abbrev cM (K:W.Frag)(H:Hp)(a:Addr)(xs:List V):Prop:=
 Rd H a (.tup xs)\/
  ∃ (o:Obj) (its:Array Value) (n:Nat),K.lookup a=some o/\o.cls=.type "tuple"/\o.data=.seq its n/\its.size<=ce/\Vals xs its.toList
abbrev Fy:Value->Option V
 | .none=>some .non
 | .bool b=>some (.bl b)
 | .int i _=>some (.int i)
 | .str x _=>some (.str x)
 | .bytes b _=>some (.byt b)
 | .float b _=>some (.flt b)
 | .ref a=>some (.ref a)
 | .type n=>some (.ty n)
 |_=>none
def RelV.abs {x:V}(r:RelV x u):Fy u=some x:=by
 cases x with
 |non=>cases r;rfl
 |bl _=>cases r;rfl
 |int _=>obtain⟨t,rfl⟩:=r;rfl
 |str _=>obtain⟨t,rfl⟩:=r;rfl
 |byt _=>obtain⟨t,rfl⟩:=r;rfl
 |flt _=>obtain⟨t,rfl⟩:=r;rfl
 |ref _=>cases r;rfl
 |ty _=>cases r;rfl
def RelV.inj {x y:V}(r:RelV x u)(q:RelV y u):x=y:=Option.some.inj (r.abs.symm.trans q.abs)
def Vals.inj:∀ {xs ys:List V}{us:List Value},Vals xs us->Vals ys us->xs=ys
 |_,_,_,.nil,.nil=>rfl
 |_,_,_,.cons r t,.cons r' t'=>by rw[r.inj r',Vals.inj t t']
variable {K:W.Frag}
section
variable {X:Cx}{Y:HD}{U:St}{H:Hp}{s:Shared}{a:Addr}{xs ys:List V}
def aV.of (h:H a=some (.lst xs)):aV K H a xs:=.inl (.inl h)
def cM.of (h:H a=some (.tup xs)):cM K H a xs:=.inl (.inl h)
def Inv.list (I:Inv X Y U H s)(h:aV X.K H a xs):∃ its:List Value,Vals xs its/\PlainL s.heap a its.toArray/\xs.length<=ce:=by
 rcases h with h|⟨o,its,n,hk,hc,hd,hs,hz,r⟩
 .obtain⟨z,its,n,r,e⟩:=h.ok I.hok;exact⟨its,r,⟨_,n,e,rfl,rfl,rfl⟩,z⟩
 .refine⟨its.toList,r,⟨o,n,I.bF a o hk,hc,hd,by simpa using hs⟩,?_⟩;have e:=r.length;simp only[Array.length_toList]at e
  omega
def Inv.tuple (I:Inv X Y U H s)(h:cM X.K H a xs):∃ its:List Value,Vals xs its/\IsTup s.heap a its.toArray/\xs.length<=ce:=by
 rcases h with h|⟨o,its,n,hk,hc,hs,hz,r⟩
 .obtain⟨z,its,r,p⟩:=h.ok I.hok;exact⟨its,r,p,z⟩
 .refine⟨its.toList,r,⟨o,I.bF a o hk,hc,n,by simpa using hs⟩,?_⟩;have e:=r.length;simp only[Array.length_toList]at e
  omega
def Inv.gf (I:Inv X Y U H s)(h:aV X.K H a xs)(h':aV X.K H a ys):xs=ys:=by
 obtain⟨its,r,⟨o,n,e,_,_,d⟩,_⟩:=I.list h;obtain⟨its',r',⟨o',n',e',_,_,d'⟩,_⟩:=I.list h';rw[e]at e';cases e';rw[d]at d'
 injection d' with d1 _
 have:its=its':=by simpa using congrArg Array.toList d1
 subst this;exact r.inj r'
def Inv.ku (I:Inv X Y U H s)(h:cM X.K H a xs)(h':cM X.K H a ys):xs=ys:=by
 obtain⟨its,r,⟨o,e,_,n,d⟩,_⟩:=I.tuple h;obtain⟨its',r',⟨o',e',_,n',d'⟩,_⟩:=I.tuple h';rw[e]at e';cases e';rw[d]at d'
 injection d' with d1 _
 have:its=its':=by simpa using congrArg Array.toList d1
 subst this;exact r.inj r'
end
section
variable {X:Cx}{Y:HD}{U:St}{H:Hp}{s:Shared}{E:HC}
end
section
variable {X:Cx}{st:Stmt}{rest:List Stmt}{t u:TS}{e:Expr}{te:TE}{pos:Pos}
abbrev DO:TS:=λD U H=>D.nx U H
abbrev FL (t u:TS):TS:=λD U H=>t { D with nx:=u D } U H
def yE:xw X [] DO:=λ_ _ U H _ I h=>wpAny_execs_nil ⟨U,H,I,h⟩
def vM (h1:PS X st t)(h2:xw X rest u):xw X (st::rest) (FL t u):=by
 intro Y s U H D I h;refine wpAny_execs_cons (aG (h1 Y s U H { D with nx:=u D } I h) λf s1 q=>?_);cases f with
 |next=>
  obtain⟨σ',H',I',q⟩:=q;exact h2 Y s1 σ' H' D I' q
 |ret v=>exact q
 |brk=>exact q
 |cont=>exact q
def Inv.quiet (I:Inv X Y U H s):interactive X.env=false:=by simp[interactive,I.ok.kind]
abbrev Ei (te:TE):TS:=λD U H=>te U H λ_ H1=>D.nx U H1
def yC (he:PE X e te)(hs:swapsWith e none pos.line X.env=pure false:=by rfl):PS X (.Expr e pos) (Ei te):=by
 intro Y s U H D I h;exact wpAny_Expr_any (aG (he Y s U H _ I h) λv s1 ⟨x,H1,I1,r1,q1⟩=>⟨U,H1,I1,q1⟩) I.quiet hs
abbrev FP (te:TE):TS:=λD U H=>te U H D.rt
def Cg (he:PE X e te):PS X (.Return (some e) pos) (FP te):=by
 intro Y s U H D I h;exact wpAny_Return_some (aG (he Y s U H _ I h) λv s1 ⟨x,H1,I1,r1,q1⟩=>⟨x,U,H1,I1,r1,q1⟩)
abbrev FZ (c:TT)(t u:TS):TS:=λD U H=>c U H λb H1=>if b=true then t D U H1 else u D U H1
def DU {a b:List Stmt}{tc:TT}(hc:PT X c tc)(ha:xw X a t)(hb:xw X b u):PS X (.If c a b pos) (FZ tc t u):=by
 intro Y s U H D I h;refine wpAny_If (aG (hc Y s U H _ I h) λd s1 ⟨H1,I1,q1⟩=>?_);cases d with
 |true=>exact ha Y s1 U H1 D I1 q1
 |false=>exact hb Y s1 U H1 D I1 q1
end
@[reducible]def TG:=V->St->Hp->(St->Hp->Prop)->Prop
@[reducible]def xF:=List V->St->Hp->(St->Hp->Prop)->Prop
abbrev PG (X:Cx)(target:Expr)(t:TG):Prop:=
 ∀ (Y:HD) (s:Shared) (U:St) (H:Hp) (v:V) (u:Value) (Q:St->Hp->Prop),Inv X Y U H s->RelV v u->t v U H Q->
  wpAny (model X.prog X.w) X.A (assign target X.env u) (λ_ s'=>∃ σ' H',Inv X Y σ' H' s'/\Q σ' H') X.xe s
abbrev BP (X:Cx)(ts:List Expr)(t:xF):Prop:=
 ∀ (Y:HD) (s:Shared) (U:St) (H:Hp) (vs:List V) (us:List Value) (Q:St->Hp->Prop),Inv X Y U H s->Vals vs us->t vs U H Q->
  wpAny (model X.prog X.w) X.A (assignInOrder ((assignEach ts X.env).map (·.2)) us) (λ_ s'=>∃ σ' H',Inv X Y σ' H' s'/\Q σ' H') X.xe s
@[reducible]def sC:=V->V->V->Hp->(Hp->Prop)->Prop
abbrev xy (X:Cx)(t:sC):Prop:=
 ∀ (Y:HD) (s:Shared) (U:St) (H:Hp) (o i v:V) (ov iv u:Value) (Q:Hp->Prop),Inv X Y U H s->RelV o ov->RelV i iv->RelV v u->t o i v H Q->
  wpAny (model X.prog X.w) X.A (setItem ov iv u) (λ_ s'=>∃ H',Inv X Y U H' s'/\Q H') X.xe s
@[reducible]def EZ:=V->V->Hp->VK->Prop
abbrev E4 (X:Cx)(op:Operator)(t:EZ):Prop:=
 ∀ (Y:HD) (s:Shared) (U:St) (H:Hp) (x y:V) (v u:Value) (Q:VK),Inv X Y U H s->RelV x v->RelV y u->t x y H Q->
  wpAny (model X.prog X.w) X.A (inplaceOp op v u) (EP X Y U Q) X.xe s
variable {es:List Expr}{k:Nat}{tg:Expr}{te:TE}
section
variable {X:Cx}{pos:Pos}
abbrev fO (i:Nat):TG:=λv U H Q=>Q (U.set i (some v)) H
def fQ (hN:X.N.Nodup)(hi:X.N[i]? =some x)(hx:Loc X.env.scope x)(hf:X.fn x=true\/X.env.scope.names.lookup x=some .local:=by first|exact .inl rfl|exact .inr rfl|assumption):PG X (.Name x pos) (fO i):=by
 intro Y s U H v u Q I r h;exact wpAny_assign_Name (fq I hN hi hx r (λs' I'=>⟨_,H,I',h⟩) hf)
abbrev FH:xF:=λvs U H Q=>vs=[]/\Q U H
abbrev DB (t:TG)(u:xF):xF:=λvs U H Q=>∃ v r,vs=v::r/\t v U H λσ' H'=>u r σ' H' Q
def lC:BP X [] FH:=by
 intro Y s U H vs us Q I r h;obtain⟨e,h⟩:=h;subst e;cases r;exact assignInOrder_nil ⟨U,H,I,h⟩
def fT {t:TG}{u:xF}(h1:PG X e t)(h2:BP X es u)
  (hs:(assignEach (e::es) X.env).map (·.2)=assign e X.env::(assignEach es X.env).map (·.2):=by rfl):BP X (e::es) (DB t u):=by
 intro Y s U H vs us Q I r h;obtain⟨v,vr,e1,h⟩:=h;subst e1;cases r with
 |cons r rr=>
  rw[hs];refine assignInOrder_cons (aG (h1 Y s U H _ _ _ I r h) λ_ s1 ⟨σ1,H1,I1,q1⟩=>?_);exact h2 Y s1 σ1 H1 _ _ Q I1 rr q1
abbrev yT (K:W.Frag)(n:Nat)(t:xF):TG:=λv U H Q=>∃ a xs,v=.ref a/\cM K H a xs/\xs.length=n/\t xs U H Q
def lH {t:xF}{n:Nat}(hc:X.calm=true)(h:BP X es t)
  (hn:(assignEach es X.env).length=n:=by rfl) (hst:(assignEach es X.env).findIdx? (·.1)=none:=by rfl):PG X (.Tuple es k pos) (yT X.K n t):=by
 intro Y s U H v u Q I r hw;obtain⟨a,xs,e1,hq,hl,hw⟩:=hw;subst e1;cases r;obtain⟨its,rv,ht,hz⟩:=I.tuple hq;refine assign_Tuple_tuple (I.ok.hd hc) ht (by simp[hn,<-hl,rv.length]) hst λh' hx=>?_
 have I1:Inv X Y U H { s with heap:=h' }:=I.kept (t':=s.toks) λb o e=>hx b o (re (ul e)) e
 exact h Y _ U H xs _ Q I1 (by simpa using rv) hw
abbrev FE (to ti:TE)(t:sC):TG:=λv U H Q=>to U H λo H1=>ti U H1 λi H2=>t o i v H2 λH3=>Q U H3
def BD {o i:Expr}{to ti:TE}{t:sC}(ho:PE X o to)(hi:PE X i ti)(hs:xy X t)
  (ha:∀ v,assign (.Subscript o i pos) X.env v=(do
   let ov <-holding [v] (eval o X.env)
   let iv <-holding [v,ov] (eval i X.env)
   standAt pos
   holding [v,ov,iv] (setItem ov iv v)
   release [v,ov,iv] []):=by intro _;rfl):PG X (.Subscript o i pos) (FE to ti t):=by
 intro Y s U H v u Q I r h;rw[ha];refine ap (bm (aG (ho Y s U H _ I h) λov s1 ⟨x,H1,I1,r1,q1⟩=>?_));refine ap (bm (aG (hi Y s1 U H1 _ I1 q1) λiv s2 ⟨y,H2,I2,r2,q2⟩=>?_));refine ap (wpAny_standAt (ap (bm (aG (hs Y s2 U H2 x y v ov iv u _ I2 r1 r2 r q2) λ_ s3 ⟨H3,I3,q3⟩=>?_))));exact wpAny_release ⟨U,H3,I3,q3⟩
abbrev Ec (te:TE)(g:TG):TS:=λD U H=>te U H λx H1=>g x U H1 D.nx
def Bh {g:TG}(he:PE X e te)(hg:PG X tg g)(hs:swapsWithSole [tg] e pos.line X.env=pure false:=by rfl) (hw:swappedStores [tg] e X.env=pure none:=by rfl)
  (h1:(assignEach [tg] X.env).map (·.2)=[assign tg X.env]:=by rfl):PS X (.Assign [tg] e pos) (Ec te g):=by
 intro Y s U H D I h;refine wpAny_Assign_stores (aG (he Y s U H _ I h) λv s1 ⟨x,H1,I1,r1,q1⟩=>?_) hs hw;rw[h1];exact aG (hg Y s1 U H1 x v _ I1 r1 q1) λ_ s2 q=>q
def tQ {pos':Pos}(hN:X.N.Nodup)(hi:X.N[i]? =some x)(hx:Loc X.env.scope x)(he:PE X e te)(hs:swapsWith e (some (.Name x pos')) pos.line X.env=pure false:=by rfl) (hf:X.fn x=true\/X.env.scope.names.lookup x=some .local:=by first|exact .inl rfl|exact .inr rfl|assumption):
  PS X (.Assign [.Name x pos'] e pos) (Ec te (fO i)):=by
 intro Y s U H D I h;refine wpAny_Assign_Name (aG (he Y s U H _ I h) λv s1 ⟨y,H1,I1,r1,q1⟩=>?_) hs;exact fq I1 hN hi hx r1 (λs2 I2=>⟨_,H1,I2,q1⟩) hf
abbrev Eo (to ti te:TE)(tget:V->V->Hp->VK->Prop)(tip:EZ)(tset:sC):TS:=λD U H=>to U H λo H1=>ti U H1 λi H2=>tget o i H2 λx H3=>te U H3 λy H4=>tip x y H4 λz H5=>tset o i z H5 λH6=>D.nx U H6
abbrev Bg (X:Cx)(t:V->V->Hp->VK->Prop):Prop:=
 ∀ (Y:HD) (s:Shared) (U:St) (H:Hp) (o i:V) (ov iv:Value) (Q:VK),Inv X Y U H s->RelV o ov->RelV i iv->t o i H Q->
  wpAny (model X.prog X.w) X.A (getItem ov iv) (EP X Y U Q) X.xe s
def yt {o i:Expr}{to ti:TE}{tget:V->V->Hp->VK->Prop}{tip:EZ}{tset:sC}{op:Operator}{tpos:Pos}(ho:PE X o to)(hi:PE X i ti)(hg:Bg X tget)(he:PE X e te)(hp:E4 X op tip)(hs:xy X tset)
  (ha:∀ ov iv new,augStore i ov iv new=(do holding [new,ov,iv] (setItem ov iv new);release [new,ov,iv] [];pure .next):=by intros;rfl):PS X (.AugAssign (.Subscript o i tpos) op e pos) (Eo to ti te tget tip tset):=by
 intro Y s U H D I h;refine wpAny_AugAssign_SubscriptAny (aG (ho Y s U H _ I h) λov s1 ⟨x1,H1,I1,r1,q1⟩=>?_) ha;refine aG (hi Y s1 U H1 _ I1 q1) λiv s2 ⟨x2,H2,I2,r2,q2⟩=>?_
 refine aG (hg Y s2 U H2 x1 x2 ov iv _ I2 r1 r2 q2) λold s3 ⟨x3,H3,I3,r3,q3⟩=>?_
 refine aG (he Y s3 U H3 _ I3 q3) λv s4 ⟨x4,H4,I4,r4,q4⟩=>?_
 refine aG (hp Y s4 U H4 x3 x4 old v _ I4 r3 r4 q4) λnew s5 ⟨x5,H5,I5,r5,q5⟩=>?_
 exact aG (hs Y s5 U H5 x1 x2 x5 ov iv new _ I5 r1 r2 r5 q5) λ_ s6 ⟨H6,I6,q6⟩=>⟨U,H6,I6,q6⟩
abbrev Gn (f:Int->Int->Int):EZ:=λx y H Q=>∃ i j,x=.int i/\y=.int j/\Q (.int (f i j)) H
def Cr:E4 X .Add (Gn λi j=>i+j):=by
 intro Y s U H x y v u Q I r1 r2 h;obtain⟨i,j,e1,e2,q⟩:=h;subst e1;subst e2;obtain⟨t,rfl⟩:=r1;obtain⟨t',rfl⟩:=r2;exact iadd_int ⟨.int _,H,I.tok _,⟨_,rfl⟩,q⟩
def A7:E4 X .Sub (Gn λi j=>i-j):=by
 intro Y s U H x y v u Q I r1 r2 h;obtain⟨i,j,e1,e2,q⟩:=h;subst e1;subst e2;obtain⟨t,rfl⟩:=r1;obtain⟨t',rfl⟩:=r2;exact isub_int ⟨.int _,H,I.tok _,⟨_,rfl⟩,q⟩
end
variable {body:List Stmt}
section
variable {X:Cx}{pos:Pos}
abbrev AR (c:TT)(tb:TS):TS:=λD U H=>∃ W:Nat->St->Hp->Prop,(∃ m,W m U H)/\∀ m U H,W m U H->
 c U H λb H1=>if b=true then ∃ N:St->Hp->Prop,(∀ σ' H',N σ' H'->∃ m',m'<m/\W m' σ' H')/\tb { D with nx:=N,ct:=N,bk:=D.nx } U H1 else D.nx U H1
def vc {tc:TT}{tb:TS}(hp:PassesOwn (model X.prog X.w) X.A X.env X.xe)(hc:PT X c tc)(hb:xw X body tb):PS X (.While c body [] pos) (AR tc tb):=by
 intro Y s U H D I h;obtain⟨W,⟨m0,w0⟩,turn⟩:=h;refine wpAny_While (codeAny_whileLoop (λn s'=>∃ σ' H',Inv X Y σ' H' s'/\W n σ' H') ?_ m0 ⟨U,H,I,w0⟩);rintro n s1 ⟨σ1,H1,I1,w1⟩;refine wpAny_passesOwn hp (aG (hc Y s1 σ1 H1 _ I1 (turn n σ1 H1 w1)) λb s2 ⟨H2,I2,q2⟩=>?_);cases b with
 |true=>
  obtain⟨N,hN,q2⟩:=q2;rw[if_pos rfl];refine wpAny_passesOwn hp (aG (hb Y s2 σ1 H2 _ I2 q2) λf s3 q3=>?_);cases f with
  |next=>
   obtain⟨σ3,H3,I3,n3⟩:=q3;obtain⟨m',hm,w3⟩:=hN σ3 H3 n3;exact⟨m',hm,σ3,H3,I3,w3⟩
  |cont=>
   obtain⟨σ3,H3,I3,n3⟩:=q3;obtain⟨m',hm,w3⟩:=hN σ3 H3 n3;exact⟨m',hm,σ3,H3,I3,w3⟩
  |brk=>exact q3
  |ret v=>exact q3
 |false=>
  rw[if_neg Bool.false_ne_true];exact wpAny_execs_nil ⟨σ1,H2,I2,q2⟩
end
structure It where
 go:Nat->Hp->Prop
 yld:Nat->Hp->V->Hp->Prop
 stop:Nat->Hp->Prop
abbrev gG (X:Cx)(Y:HD)(H:Hp)(b:Addr):Prop:=
 H b=none/\b≠X.env.locals/\b ∉ X.fs/\(b ∈ X.ex\/X.s₀.heap.objs.size<=b)/\(∀ x c,X.env.cells.lookup x=some c->c≠b)/\∀ p ∈ X.pn++Y,p.1≠b
def Inv.u7 {X:Cx}{H':Hp}(I:Inv X Y U H s)(hb:s.heap.objs.size<=b)(hn:H' b=none):gG X Y H' b:=by
 refine⟨hn,Nat.ne_of_gt (pc I.lt hb),I.FG hb,.inr (Nat.le_trans I.sz hb),λx c e z=>?_,λp hp z=>?_⟩
 .obtain⟨v,q⟩:=I.cell x c e;exact absurd (pc q.lt (by rw[z];exact hb)) (Nat.lt_irrefl _)
 .exact absurd (pc (ul (I.pin p hp).1) (by rw[z];exact hb)) (Nat.lt_irrefl _)
structure Turn (P:Program) (w:World) (K:W.Frag) (tg:Expr) (J:It) (fp:List Addr) (it:Addr) (tn:Nat->Heap->Prop):Prop where
 mem:it ∈ fp
 obj:∀ i h,tn i h->∀ b ∈ fp,∃ o,h.get? b=some o/\∀ v,o.data≠.cell v
 keep:∀ i h h',tn i h->(∀ b ∈ fp,∀ o,h.get? b=some o->h'.get? b=some o)->tn i h'
 item:∀ (X:Cx),X.prog=P->X.w=w->X.K=K->X.calm=true->∀ (i:Nat) (Y:HD) (s:Shared) (U:St) (H:Hp) (E:HC),Inv X Y U H s->(∀ b ∈ fp,gG X Y H b)->tn i s.heap->J.go i H->
  wpAny (model P w) X.A (pyNext (.ref it)) (λr s1=>∃ u,r=some u/\
   wpAny (model P w) X.A (letOwnedTupleGo tg (.ref it) u) (λ_ s2=>∃ x H',Inv X Y U H' s2/\RelV x u/\J.yld i H x H'/\tn (i+1) s2.heap/\∀ b ∈ fp,H' b=none) E s1) E s
 done:∀ (X:Cx),X.prog=P->X.w=w->X.K=K->X.calm=true->∀ (i:Nat) (Y:HD) (s:Shared) (U:St) (H:Hp) (E:HC),Inv X Y U H s->(∀ b ∈ fp,gG X Y H b)->tn i s.heap->J.stop i H->
  wpAny (model P w) X.A (pyNext (.ref it)) (λr s1=>r=none/\Inv X Y U H s1) E s
 self:∀ (A:Around) (i:Nat) (s:Shared) (Q:HC) (E:HC),tn i s.heap->Q (.ref it) s->wpAny (model P w) A (pyIter (.ref it)) Q E s
@[reducible]def TI:=St->Hp->(It->Hp->Prop)->Prop
abbrev DE (X:Cx)(Y:HD)(U:St)(tg:Expr)(R:It->Hp->Prop)(itv:Value)(s2:Shared):Prop:=
 ∃ (it:Addr) (fp:List Addr) (tn:Nat->Heap->Prop) (J:It) (H':Hp),itv=.ref it/\Inv X Y U H' s2/\Turn X.prog X.w X.K tg J fp it tn/\tn 0 s2.heap/\(∀ b ∈ fp,gG X Y H' b)/\R J H'
abbrev PI (X:Cx)(tg iter:Expr)(wi:TI):Prop:=
 ∀ (Y:HD) (s:Shared) (U:St) (H:Hp) (R:It->Hp->Prop),Inv X Y U H s->wi U H R->
  wpAny (model X.prog X.w) X.A (eval iter X.env) (λv s1=>wpAny (model X.prog X.w) X.A (pyIter v) (DE X Y U tg R) X.xe s1) X.xe s
def qA {it:Addr}{o:Obj}{n:String}{vs:Array Value}{Q:HB}(ho:s.heap.get? it=some o)(hc:o.cls=.type n)(hd:o.data=.fields vs)
  (hn:["enumerate","zip","dict_itemiterator","dict_reverseitemiterator","odict_iterator","itertools.zip_longest","itertools.pairwise"].contains n=false) (hQ:Q () s):wpAny M A (letOwnedTupleGo tg (.ref it) u) Q E s:=by
 unfold letOwnedTupleGo;cases tg<;>first
  |exact bd hQ
  |(cases u<;>first
    |exact bd hQ
    |(refine ap (wpAny_load ho ?_)
      rw[hc,hd];show wpAny M A (if(["enumerate","zip","dict_itemiterator","dict_reverseitemiterator","odict_iterator","itertools.zip_longest","itertools.pairwise"].contains n&&vs[0]? ==some (rawInt _))=true then _ else _) Q E s;rw[if_neg (by intro h;rw[hn,Bool.false_and]at h;cases h)];exact bd hQ))
abbrev C2 (K:W.Frag)(a:Addr):It:=
 ⟨λi H=>∃ xs x,aV K H a xs/\xs[i]? =some x,λi H x H'=>H'=H/\∀ xs,aV K H a xs->xs[i]? =some x,λi H=>∃ xs,aV K H a xs/\xs.length<=i⟩
abbrev CY (K:W.Frag)(a:Addr):It:=
 ⟨λi H=>∃ xs x,cM K H a xs/\xs[i]? =some x,λi H x H'=>H'=H/\∀ xs,cM K H a xs->xs[i]? =some x,λi H=>∃ xs,cM K H a xs/\xs.length<=i⟩
abbrev C3 (lo:Int)(n:Nat):It:=⟨λi _=>i<n,λi H x H'=>H'=H/\x=.int (lo+i),λi _=>n<=i⟩
def su (a it:Addr):Turn P w K tg (C2 K a) [it] it (λi h=>h.IsListIter it a i) where
 mem:=by simp
 obj:=λi h st b hb=>by
  have e:b=it:=by simpa using hb
  subst e;obtain⟨o,e,c,d⟩:=st;exact⟨o,e,λv z=>by rw[d]at z;cases z⟩
 keep:=λi h h' st k=>st.at λo e=>k it (by simp) o e
 item:=by
  intro X hP hw hK hc i Y s U H E I hf st hg;subst hP hw hK;obtain⟨xs,x,hq,hx⟩:=hg;obtain⟨its,rv,p,hz⟩:=I.list hq;obtain⟨u,hu,ru⟩:=rv.get hx;obtain⟨f0,f1,f2,f3,f4,f5⟩:=hf it (by simp);refine wpAny_pyNext_list_item st p.isList (x:=u) (by simpa using hu) λh' st' sb=>?_
  have I1:Inv X Y U H { s with heap:=h' }:=I.turned (t':=s.toks) (λb o hb e=>(sb.2 b hb).trans e) f0 f1 f3 f4 f5;obtain⟨o,e,c,d⟩:=id st';exact⟨u,rfl,qA (s:={ s with heap:=h' }) e c d (by decide) ⟨x,H,I1,ru,⟨rfl,λys hy=>by rw[I.gf hy hq];exact hx⟩,st',λb hb=>(hf b hb).1⟩⟩
 done:=by
  intro X hP hw hK hc i Y s U H E I hf st hg;subst hP hw hK;obtain⟨xs,hq,hx⟩:=hg;obtain⟨its,rv,p,hz⟩:=I.list hq;obtain⟨f0,f1,f2,f3,f4,f5⟩:=hf it (by simp);have hl:=rv.length;exact wpAny_pyNext_list_end (I.ok.hd hc) st p.isList (by simp;omega) λh' eb=>⟨rfl,I.turned (t':=s.toks) (λb o hb e=>eb b o hb e) f0 f1 f3 f4 f5⟩
 self:=λ_ _ _ _ _ st h=>wpAny_pyIter_listiter st h
def o6 (a it:Addr):Turn P w K tg (CY K a) [it] it (λi h=>h.IsTupleIter it a i) where
 mem:=by simp
 obj:=λi h st b hb=>by
  have e:b=it:=by simpa using hb
  subst e;obtain⟨o,e,c,d⟩:=st;exact⟨o,e,λv z=>by rw[d]at z;cases z⟩
 keep:=λi h h' st k=>st.at λo e=>k it (by simp) o e
 item:=by
  intro X hP hw hK hc i Y s U H E I hf st hg;subst hP hw hK;obtain⟨xs,x,hq,hx⟩:=hg;obtain⟨its,rv,p,hz⟩:=I.tuple hq;obtain⟨u,hu,ru⟩:=rv.get hx;obtain⟨f0,f1,f2,f3,f4,f5⟩:=hf it (by simp);refine wpAny_pyNext_tuple_item st (show s.heap.IsTuple a its.toArray from p) (x:=u) (by simpa using hu) λh' st' sb=>?_
  have I1:Inv X Y U H { s with heap:=h' }:=I.turned (t':=s.toks) (λb o hb e=>(sb.2 b hb).trans e) f0 f1 f3 f4 f5;obtain⟨o,e,c,d⟩:=id st';exact⟨u,rfl,qA (s:={ s with heap:=h' }) e c d (by decide) ⟨x,H,I1,ru,⟨rfl,λys hy=>by rw[I.ku hy hq];exact hx⟩,st',λb hb=>(hf b hb).1⟩⟩
 done:=by
  intro X hP hw hK hc i Y s U H E I hf st hg;subst hP hw hK;obtain⟨xs,hq,hx⟩:=hg;obtain⟨its,rv,p,hz⟩:=I.tuple hq;obtain⟨f0,f1,f2,f3,f4,f5⟩:=hf it (by simp);have hl:=rv.length;exact wpAny_pyNext_tuple_end (I.ok.hd hc) st (show s.heap.IsTuple a its.toArray from p) (by simp;omega) λh' eb=>⟨rfl,I.turned (t':=s.toks) (λb o hb e=>eb b o hb e) f0 f1 f3 f4 f5⟩
 self:=λ_ _ _ _ _ st h=>wpAny_pyIter_tupleiter st h
def o9 (it:Addr)(lo:Int)(n:Nat):Turn P w K tg (C3 lo n) [it] it (λi h=>IsRangeIter h it (lo+(i:Nat)*1) ((n:Int)-(i:Nat)) 1) where
 mem:=by simp
 obj:=λi h st b hb=>by
  have e:b=it:=by simpa using hb
  subst e;exact⟨_,st,λv z=>by
   have z':Data.fields _=Data.cell v:=z;cases z'⟩
 keep:=λi h h' st k=>k it (by simp) _ st
 item:=by
  intro X hP hw hK hc i Y s U H E I hf st hg;subst hP hw hK;obtain⟨f0,f1,f2,f3,f4,f5⟩:=hf it (by simp);have W:=Walks.range (prog:=X.prog) (w:=X.w) (I.ok.hd hc) it lo 1 n;refine W.item i s _ _ hg st λv h' tk hv st' kk=>?_
  obtain⟨t,rfl⟩:=hv;have I1:Inv X Y U H { s with heap:=h',toks:=tk }:=I.turned (λb o hb e=>kk b o (by simpa using hb) e) f0 f1 f3 f4 f5;refine⟨_,rfl,qA (s:={ s with heap:=h',toks:=tk }) (n:="range_iterator") st' rfl rfl (by decide) ⟨.int (lo+i),H,I1,⟨t,?_⟩,⟨rfl,rfl⟩,st',λb hb=>(hf b hb).1⟩⟩;rw[Int.mul_one]
 done:=by
  intro X hP hw hK hc i Y s U H E I hf st hg;subst hP hw hK;obtain⟨f0,f1,f2,f3,f4,f5⟩:=hf it (by simp);exact wpAny_pyNext_range_end (I.ok.hd hc) st (by have:n<=i:=hg;omega) λh' eb=>⟨rfl,I.turned (t':=s.toks) (λb o hb e=>eb b o hb e) f0 f1 f3 f4 f5⟩
 self:=λ_ _ _ _ _ st h=>wpAny_pyIter_rangeiter st h
variable {pos:Pos}{fp:List Addr}
section
variable {X:Cx}{tg:Expr}
def ve {R:It->Hp->Prop}{lo hi:Int}{t u v:Tok}{tk:Nat}(I:Inv X Y U H s)(h1: -(2 ^ 62)<=lo)(h2:lo<2 ^ 62)(h3: -(2 ^ 62)<=hi)(h4:hi<2 ^ 62)
  (q:R (C3 lo (hi-lo).toNat) H):wpAny (model X.prog X.w) X.A (pyIter (.ref s.heap.objs.size)) (DE X Y U tg R) E { s with heap:=s.heap.push { cls:=.type "range",data:=.fields #[.int lo t,.int hi u,.int 1 v] },toks:=tk }:=by
 refine wpAny_pyIter_range (IsRange.new ..) (small_one h1 h2 h3 h4) ?_;have I1:Inv X Y U H { s with heap:=s.heap.push { cls:=.type "range",data:=.fields #[.int lo t,.int hi u,.int 1 v] },toks:=tk }:=I.kept λb o e=>u8 _ e
 refine⟨(s.heap.push { cls:=.type "range",data:=.fields #[.int lo t,.int hi u,.int 1 v] }).objs.size,[(s.heap.push { cls:=.type "range",data:=.fields #[.int lo t,.int hi u,.int 1 v] }).objs.size],_,_,H,rfl,
  I1.kept (t':=tk) λb o e=>u8 _ e,o9 _ lo (hi-lo).toNat,?_,λb hb=>?_,q⟩
 .have e1:lo+((0:Nat):Int)*1=lo:=by simp
  have e2:(((hi-lo).toNat:Nat):Int)-((0:Nat):Int)=Builtin.Range.rangeSize lo hi 1:=by rw[rangeSize_one];split<;>omega
  show IsRangeIter _ _ (lo+((0:Nat):Int)*1) ((((hi-lo).toNat:Nat):Int)-((0:Nat):Int)) 1;rw[e1,e2];exact ut _ rfl
 .have e:b=(s.heap.push { cls:=.type "range",data:=.fields #[.int lo t,.int hi u,.int 1 v] }).objs.size:=by simpa using hb
  subst e;exact I1.u7 (s0 _) (I1.hok.fresh (s0 _))
abbrev Ew (ta:TA):TI:=λU H R=>ta U H λvs H1=>∃ j:Int,vs=[.int j]/\ -(2 ^ 62)<=j/\j<2 ^ 62/\R (C3 0 j.toNat) H1
def sU {a:Expr}{ta:TA}{p:Pos}(hg:Gl X "range") (hm:X.mg "range"=none) (ha:PA X [a] ta) (hs:bv [a] X.env=[(false,eval a X.env)]:=by rfl):PI X tg (.Call (.Name "range" p) [a] [] pos) (Ew ta):=by
 intro Y s U H R I h;refine Call_ (jb I hg hm boot_range (PyProof.Rows.callWith_type1 (aG (ha pos Y s U H _ I h) λus s1 ⟨vs,H1,I1,r1,q1⟩=>?_) hs rfl));obtain⟨j,e,q1,q2,q⟩:=q1;subst e;cases r1 with
 |cons r rr=>
  cases rr;obtain⟨t,rfl⟩:=r;exact call_range_1 (ve I1 nofun nofun q1 q2 (by simpa using q))
abbrev Fu (wi:TI)(g:TG)(tb:TS):TS:=λD U H=>wi U H λJ H1=>∃ W:Nat->Nat->St->Hp->Prop,(∃ m,W 0 m U H1)/\∀ i m U H,W i m U H->
 (J.stop i H/\D.nx U H)\/(J.go i H/\∃ N:St->Hp->Prop,(∀ σ' H',N σ' H'->∃ m',m'<m/\W (i+1) m' σ' H')/\∀ x H',J.yld i H x H'->g x U H' λσ2 H2=>tb { D with nx:=N,ct:=N,bk:=D.nx } σ2 H2)
abbrev lK (fp:List Addr)(h:Heap):List (Addr×Obj):=fp.filterMap λb=>(h.get? b).map λo=>(b,o)
def bw {o:Obj}(hb:b ∈ fp)(e:h.get? b=some o):(b,o) ∈ lK fp h:=List.mem_filterMap.mpr ⟨b,hb,by rw[e];rfl⟩
def sY {p:Addr×Obj}(hp:p ∈ lK fp h):p.1 ∈ fp/\h.get? p.1=some p.2:=by
 obtain⟨b,hb,e⟩:=List.mem_filterMap.mp hp;cases q:h.get? b with
 |none=>rw[q]at e;cases e
 |some o=>
  rw[q]at e;have e':(b,o)=p:=Option.some.inj e;subst e';exact⟨hb,q⟩
def Inv.pinned (I:Inv X Y U H s)(hf:∀ b ∈ fp,gG X Y H b) (ho:∀ b ∈ fp,∃ o,s.heap.get? b=some o/\∀ v,o.data≠.cell v):Inv X (Y++lK fp s.heap) U H s:=
 I.lr λp hp=>(mem_append.mp hp).elim (λz=>I.pin p (jp _ z)) λz=>by
  obtain⟨hb,e⟩:=sY z;obtain⟨f0,f1,f2,_⟩:=hf p.1 hb;obtain⟨o,e',d⟩:=ho p.1 hb;rw[e]at e';cases e';exact⟨e,f0,f1,f2,d⟩
def Inv.dC {pl:HD}(I:Inv X (Y++pl) U H s):Inv X Y U H s:=I.lr λp hp=>I.pin p (jp _ (mem_append_left _ hp))
def CC {iter:Expr}{wi:TI}{g:TG}{tb:TS}(hp:PassesOwn (model X.prog X.w) X.A X.env X.xe)(hc:X.calm=true)(hi:PI X tg iter wi)(hg:PG X tg g)(hb:xw X body tb)
  (hs:∀ x,foldedSetIterable iter X.env x=pure x:=by intro _;rfl):PS X (.For tg iter body [] pos) (Fu wi g tb):=by
 intro Y s U H D I h;refine wpAny_For (aG (hi Y s U H _ I h) λv s1 h1=>aG h1 λitv s2 h2=>?_) hs;obtain⟨it,fp,tn,J,H2,e,I2,T,oy,f2,W,⟨m0,w0⟩,turn⟩:=h2;subst e;have stat:∀ {H':Hp},(∀ b ∈ fp,H' b=none)->∀ b ∈ fp,gG X Y H' b:=λhn b hb=>⟨hn b hb,(f2 b hb).2⟩
 refine codeAny_forLoop_any (λn s'=>∃ i σ' H',Inv X Y σ' H' s'/\tn i s'.heap/\(∀ b ∈ fp,H' b=none)/\W i n σ' H') ?_ m0 ⟨0,U,H2,I2,oy,λb hb=>(f2 b hb).1,w0⟩;rintro n s3 ⟨i,σ3,H3,I3,st3,fr3,w3⟩;rcases turn i n σ3 H3 w3 with⟨stop,qn⟩|⟨go,N,hN,step⟩
 .refine wpAny_passesOwn hp (aG (T.done X rfl rfl rfl hc i Y s3 σ3 H3 X.xe I3 (stat fr3) st3 stop) λr s4 ⟨hr,I4⟩=>?_);subst hr;exact wpAny_execs_nil ⟨σ3,H3,I4,qn⟩
 .refine wpAny_passesOwn hp (aG (T.item X rfl rfl rfl hc i Y s3 σ3 H3 X.xe I3 (stat fr3) st3 go) λr s4 ⟨u,hr,h4⟩=>?_);subst hr;refine wpAny_passesOwn hp (aG h4 λ_ s5 ⟨x,H5,I5,r5,y5,st5,fr5⟩=>?_);have I5':=I5.pinned (stat fr5) (T.obj _ _ st5);refine wpAny_passesOwn hp (aG (hg _ s5 σ3 H5 x u _ I5' r5 (step x H5 y5)) λ_ s6 ⟨σ6,H6,I6,q6⟩=>?_);refine wpAny_passesOwn hp (aG (hb _ s6 σ6 H6 _ I6 q6) λf s7 q7=>?_);have again:∀ {σ7:St}{H7:Hp},Inv X (Y++lK fp s5.heap) σ7 H7 s7->N σ7 H7->∃ m,m<n/\∃ i σ' H',Inv X Y σ' H' s7/\tn i s7.heap/\(∀ b ∈ fp,H' b=none)/\W i m σ' H':=λ{σ7 H7} I7 n7=>by
   obtain⟨m',hm,w7⟩:=hN σ7 H7 n7;refine⟨m',hm,i+1,σ7,H7,I7.dC,T.keep _ _ _ st5 λb hb o e=>(I7.pin (b,o) (jp _ (jp _ (bw hb e)))).1,λb hb=>?_,w7⟩;obtain⟨o,e,d⟩:=T.obj _ _ st5 b hb;exact(I7.pin (b,o) (jp _ (jp _ (bw hb e)))).2.1
  cases f with
  |next=>obtain⟨σ7,H7,I7,n7⟩:=q7;exact again I7 n7
  |cont=>obtain⟨σ7,H7,I7,n7⟩:=q7;exact again I7 n7
  |brk=>obtain⟨σ7,H7,I7,q7⟩:=q7;exact⟨σ7,H7,I7.dC,q7⟩
  |ret v=>obtain⟨x7,σ7,H7,I7,r7,q7⟩:=q7;exact⟨x7,σ7,H7,I7.dC,r7,q7⟩
end
@[reducible]def R2:=V->V->Hp->VK->Prop
abbrev cL (X:Cx)(f:Value->Value->Sem Value)(r:R2):Prop:=
 ∀ (Y:HD) (s:Shared) (U:St) (H:Hp) (x y:V) (v u:Value) (Q:VK),Inv X Y U H s->RelV x v->RelV y u->r x y H Q->
  wpAny (model X.prog X.w) X.A (f v u) (EP X Y U Q) X.xe s
abbrev EX (X:Cx)(f:Value->Sem Value)(r:V->Hp->VK->Prop):Prop:=
 ∀ (Y:HD) (s:Shared) (U:St) (H:Hp) (x:V) (v:Value) (Q:VK),Inv X Y U H s->RelV x v->r x H Q->
  wpAny (model X.prog X.w) X.A (f v) (EP X Y U Q) X.xe s
abbrev dy (X:Cx)(f:Value)(r:List V->Hp->VK->Prop):Prop:=
 ∀ (Y:HD) (s:Shared) (U:St) (H:Hp) (xs:List V) (us:List Value) (Q:VK),Inv X Y U H s->Vals xs us->r xs H Q->
  wpAny (model X.prog X.w) X.A (call f us) (EP X Y U Q) X.xe s
abbrev FT (X:Cx)(r:V->Hp->(Bool->Hp->Prop)->Prop):Prop:=
 ∀ (Y:HD) (s:Shared) (U:St) (H:Hp) (x:V) (v:Value) (Q:Bool->Hp->Prop),Inv X Y U H s->RelV x v->r x H Q->
  wpAny (model X.prog X.w) X.A (truthy v) (TP X Y U Q) X.xe s
abbrev E6 (r:R2)(ta tb:TE):TE:=λU H Q=>ta U H λx H1=>tb U H1 λy H2=>r x y H2 Q
abbrev Hk (r:V->Hp->VK->Prop)(ta:TE):TE:=λU H Q=>ta U H λx H1=>r x H1 Q
abbrev rI (C:Int->Int->Prop)(g:Int->Int->V):R2:=λx y H Q=>∃ i j,x=.int i/\y=.int j/\C i j/\Q (g i j) H
abbrev xW (g:Int->Int->V):R2:=λx y H Q=>∃ i j,x=.int i/\y=.int j/\Q (g i j) H
abbrev rU (g:Int->V):V->Hp->VK->Prop:=λx H Q=>∃ i,x=.int i/\Q (g i) H
variable {f:Value->Value->Sem Value}{r:R2}{g:Int->Int->Int}
section
variable {X:Cx}{a b c:Expr}{ta tb tc:TE}{pos:Pos}
def Bm (ha:PE X a ta)(hb:PE X b tb){R:V->V->Hp->Prop}(I:Inv X Y U H s)
  (h:ta U H λx H1=>tb U H1 λy H2=>R x y H2)
  (hf:∀ v u s2 x y H2,Inv X Y U H2 s2->RelV x v->RelV y u->R x y H2->wpAny (model X.prog X.w) X.A (f v u) Q X.xe s2):
  wpAny (model X.prog X.w) X.A (eval a X.env) (λv s₁=>wpAny (model X.prog X.w) X.A (eval b X.env) (λu s₂=>wpAny (model X.prog X.w) X.A (f v u) Q X.xe s₂) X.xe s₁) X.xe s:=by
 refine aG (ha Y s U H _ I h) λv s1 ⟨x,H1,I1,r1,q1⟩=>?_
 refine aG (hb Y s1 U H1 _ I1 q1) λu s2 ⟨y,H2,I2,r2,q2⟩=>?_
 exact hf v u s2 x y H2 I2 r1 r2 q2
def C9 {op:Operator}(ho:cL X (binaryOp op) r)(ha:PE X a ta)(hb:PE X b tb):PE X (.BinOp a op b pos) (E6 r ta tb):=by
 intro Y s U H Q I h;exact wpAny_BinOp (Bm ha hb I h λv u s2 x y H2 I2 rx ry q=>ho Y s2 U H2 x y v u Q I2 rx ry q)
def EH {op:UnaryOp}{r:V->Hp->VK->Prop}(ho:EX X (unaryOp op) r)(ha:PE X a ta):PE X (.UnaryOp op a pos) (Hk r ta):=by
 intro Y s U H Q I h;exact UnaryOp_ (aG (ha Y s U H _ I h) λv s1 ⟨x,H1,I1,r1,q1⟩=>ho Y s1 U H1 x v Q I1 r1 q1)
def EY {C:Int->Int->Prop}
  (rule:∀ (i j:Int) (t u:Tok) (s:Shared) (Q:HC) (E:HC),C i j->Q (.int (g i j) s.toks) { s with toks:=s.toks+1 }->wpAny (model X.prog X.w) X.A (f (.int i t) (.int j u)) Q E s):
  cL X f (rI C λi j=>.int (g i j)):=by
 intro Y s U H x y v u Q I rx ry h;obtain⟨i,j,rfl,rfl,hc,q⟩:=h;obtain⟨t,rfl⟩:=rx;obtain⟨t',rfl⟩:=ry;exact rule i j t t' s _ _ hc ⟨.int (g i j),H,I.tok _,⟨_,rfl⟩,q⟩
def EK 
  (rule:∀ (i j:Int) (t u:Tok) (s:Shared) (Q:HC) (E:HC),Q (.int (g i j) s.toks) { s with toks:=s.toks+1 }->wpAny (model X.prog X.w) X.A (f (.int i t) (.int j u)) Q E s):
  cL X f (xW λi j=>.int (g i j)):=by
 intro Y s U H x y v u Q I rx ry h;obtain⟨i,j,rfl,rfl,q⟩:=h;obtain⟨t,rfl⟩:=rx;obtain⟨t',rfl⟩:=ry;exact rule i j t t' s _ _ ⟨.int (g i j),H,I.tok _,⟨_,rfl⟩,q⟩
def xa {g:Int->Int->Bool}
  (rule:∀ (i j:Int) (t u:Tok) (s:Shared) (Q:HC) (E:HC),Q (.bool (g i j)) s->wpAny (model X.prog X.w) X.A (f (.int i t) (.int j u)) Q E s):
  cL X f (xW λi j=>.bl (g i j)):=by
 intro Y s U H x y v u Q I rx ry h;obtain⟨i,j,rfl,rfl,q⟩:=h;obtain⟨t,rfl⟩:=rx;obtain⟨t',rfl⟩:=ry;exact rule i j t t' s _ _ ⟨.bl (g i j),H,I,rfl,q⟩
abbrev F0 (i j:Int):Prop:=0<j/\j<1073741824
abbrev yI (i j:Int):Prop:=0<=j/\j<=1000000/\i.natAbs<2 ^ 64
abbrev rF (i j:Int):Prop:=(-(2 ^ 64)<i/\i<2 ^ 64)\/(-(2 ^ 64)<j/\j<2 ^ 64)
def rF.ok {i j:Int}(h:rF i j):IntMulOk i j:=by
 rcases h with⟨h1,h2⟩|⟨h1,h2⟩
 .exact .of_left (intBits_le_64 h1 h2)
 .exact .of_right (intBits_le_64 h1 h2)
def AQ:cL X (binaryOp .Add) (xW λi j=>.int (i+j)):=EK λ_ _ _ _ _ _ _ q=>add_int q
def BO:cL X (binaryOp .Sub) (xW λi j=>.int (i-j)):=EK λ_ _ _ _ _ _ _ q=>sub_int q
def Bq:cL X (binaryOp .Mult) (rI rF λi j=>.int (i*j)):=EY λ_ _ _ _ _ _ _ hc q=>mul_int q hc.ok
def yl:cL X (binaryOp .FloorDiv) (rI F0 λi j=>.int (i / j)):=EY λi j _ _ _ _ _ hc q=>by
 have h1:(0:Int)<j:=hc.1;have h2:j<1073741824:=hc.2;exact floordiv_int nofun (by rw[Int.fdiv_eq_ediv_of_nonneg i nofun];exact q) (.inl (PyProof.noPylong_small nofun))
def CP:cL X (binaryOp .Mod) (rI (λ_ j=>0<j) λi j=>.int (i % j)):=EY λi j _ _ _ _ _ hc q=>by
 have h1:(0:Int)<j:=hc;exact mod_int' nofun (by rw[Int.fmod_eq_emod_of_nonneg i nofun];exact q)
def Ca:cL X (binaryOp .Pow) (rI yI λi j=>.int (i ^ j.toNat)):=EY λ_ _ _ _ _ _ _ hc q=>pow_int_small hc.1 hc.2.1 hc.2.2 q
def G0 {f:Value->Sem Value}{g:Int->Int}
  (rule:∀ (i:Int) (t:Tok) (s:Shared) (Q:HC) (E:HC),Q (.int (g i) s.toks) { s with toks:=s.toks+1 }->wpAny (model X.prog X.w) X.A (f (.int i t)) Q E s):
  EX X f (rU λi=>.int (g i)):=by
 intro Y s U H x v Q I rx h;obtain⟨i,rfl,q⟩:=h;obtain⟨t,rfl⟩:=rx;exact rule i t s _ _ ⟨.int (g i),H,I.tok _,⟨_,rfl⟩,q⟩
def Cw:EX X (unaryOp .USub) (rU λi=>.int (-i)):=G0 λ_ _ _ _ _ q=>neg_int q
end
variable {op:CmpOp}
section
variable {X:Cx}{a b c:Expr}{ta tb tc:TE}{pos:Pos}
def oM {Q:VK}{k k':Bool}(I:Inv X Y U H s)(q:Q (.bl k) H)(e:k=k'):EP X Y U Q (.bool k') s:=by
 subst e;exact⟨.bl k,H,I,rfl,q⟩
def DQ:cL X (compareOp .Lt) (xW λi j=>.bl (decide (i<j))):=xa λ_ _ _ _ _ _ _ q=>lt_int q
def D7:cL X (compareOp .LtE) (xW λi j=>.bl (decide (i<=j))):=xa λ_ _ _ _ _ _ _ q=>le_int q
def EE:cL X (compareOp .Gt) (xW λi j=>.bl (decide (j<i))):=xa λ_ _ _ _ _ _ _ q=>gt_int q
def DJ:cL X (compareOp .GtE) (xW λi j=>.bl (decide (j<=i))):=xa λ_ _ _ _ _ _ _ q=>ge_int q
def rD:cL X (compareOp .In) (λx y H Q=>∃ i j,x=.str i/\y=.str j/\Q (.bl (!(Builtin.Str.occurrences j i 0 j.length 1).isEmpty)) H):=by
 intro Y s U H x y v u Q I rx ry h;obtain⟨i,j,rfl,rfl,q⟩:=h;obtain⟨t,rfl⟩:=rx;obtain⟨t',rfl⟩:=ry;exact in_str (oM I q rfl)
def Bl:cL X (compareOp .Is) (λx y H Q=>y=.non/\Q (.bl (decide (x=.non))) H):=by
 intro Y s U H x y v u Q I rx ry h;obtain⟨rfl,q⟩:=h;cases ry;refine is_none_gen (oM I q ?_);cases x<;>first
  |(cases rx;rfl)
  |(obtain⟨t,rfl⟩:=rx;rfl)
def yz:cL X (compareOp .IsNot) (λx y H Q=>y=.non/\Q (.bl (!decide (x=.non))) H):=by
 intro Y s U H x y v u Q I rx ry h;obtain⟨rfl,q⟩:=h;cases ry;refine isnot_none_gen (oM I q ?_);cases x<;>first
  |(cases rx;rfl)
  |(obtain⟨t,rfl⟩:=rx;rfl)
def yY (ho:cL X (compareOp op) r)(ha:PE X a ta)(hb:PE X b tb)(hm:behindInMarks op b=false):PE X (.Compare a [op] [b] pos) (E6 r ta tb):=by
 intro Y s U H Q I h;exact wpAny_Compare1 (Bm ha hb I h λv u s2 x y H2 I2 rx ry q=>ho Y s2 U H2 x y v u Q I2 rx ry q) hm
abbrev Ak (t:TE):TT:=λU H Q=>t U H λx H'=>∃ k,x=.bl k/\Q k H'
def zt (ho:cL X (compareOp op) r)(ha:PE X a ta)(hb:PE X b tb)(hm:behindInMarks op b=false):PT X (.Compare a [op] [b] pos) (Ak (E6 r ta tb)):=by
 intro Y s U H Q I h;refine wpAny_isTrue_Compare1 (aG (ha Y s U H _ I h) λv s1 ⟨x,H1,I1,r1,q1⟩=>aG (hb Y s1 U H1 _ I1 q1) λu s2 ⟨y,H2,I2,r2,q2⟩=>
  aG (ho Y s2 U H2 x y v u _ I2 r1 r2 q2) λc s3 ⟨z,H3,I3,r3,k,e,q3⟩=>?_) hm
 subst e;cases r3;exact bn ⟨H3,I3,q3⟩
abbrev vi (r r':R2)(ta tb tc:TE):TE:=λU H Q=>ta U H λx H1=>tb U H1 λy H2=>r x y H2 λz H3=>∃ k,z=.bl k/\
 (if k=true then tc U H3 λw' H4=>r' y w' H4 Q else Q (.bl false) H3)
def wz {op':CmpOp}{r':R2}(ho:cL X (compareOp op) r)(ho':cL X (compareOp op') r')(ha:PE X a ta)(hb:PE X b tb)(hc:PE X c tc)
  (hm:lastMarks [op,op'] [b,c]=false:=by with_unfolding_all rfl):PE X (.Compare a [op,op'] [b,c] pos) (vi r r' ta tb tc):=by
 intro Y s U H Q I h;refine Compare_chain (aG (ha Y s U H _ I h) λv s1 ⟨x,H1,I1,r1,q1⟩=>chain_link (aG (hb Y s1 U H1 _ I1 q1) λu s2 ⟨y,H2,I2,r2,q2⟩=>
  aG (ho Y s2 U H2 x y v u _ I2 r1 r2 q2) λd s3 ⟨z,H3,I3,r3,k,e,q3⟩=>?_)) hm
 subst e;cases r3;refine bn ?_;cases k with
 |false=>exact ite_ff ⟨.bl false,H3,I3,rfl,q3⟩
 |true=>exact ite_tt (chain_last (aG (hc Y s3 U H3 _ I3 q3) λw' s4 ⟨z',H4,I4,r4,q4⟩=>ho' Y s4 U H4 y z' u w' Q I4 r2 r4 q4))
def uQ {op':CmpOp}{r':R2}(ho:cL X (compareOp op) r)(ho':cL X (compareOp op') r')(ha:PE X a ta)(hb:PE X b tb)(hc:PE X c tc)
  (hm:lastMarks [op,op'] [b,c]=false:=by with_unfolding_all rfl):PT X (.Compare a [op,op'] [b,c] pos) (Ak (vi r r' ta tb tc)):=by
 intro Y s U H Q I h;refine isTrue_chain (aG (ha Y s U H _ I h) λv s1 ⟨x,H1,I1,r1,q1⟩=>test_link (aG (hb Y s1 U H1 _ I1 q1) λu s2 ⟨y,H2,I2,r2,q2⟩=>
  aG (ho Y s2 U H2 x y v u _ I2 r1 r2 q2) λd s3 ⟨z,H3,I3,r3,k,e,q3⟩=>?_)) hm
 subst e;cases r3;refine bn ?_;cases k with
 |false=>
  obtain⟨k',e',q'⟩:=q3;cases e';exact ite_ff ⟨H3,I3,q'⟩
 |true=>
  refine ite_tt (test_last (aG (hc Y s3 U H3 _ I3 q3) λw' s4 ⟨z',H4,I4,r4,q4⟩=>aG (ho' Y s4 U H4 y z' u w' _ I4 r2 r4 q4) λd' s5 ⟨z2,H5,I5,r5,k2,e2,q5⟩=>?_));subst e2;cases r5;exact bn ⟨H5,I5,q5⟩
abbrev yo (K:W.Frag)(x:V)(H:Hp)(k:Bool):Prop:=
 match x with
 | .non=>k=false
 | .bl b=>k=b
 | .int i=>k=(i != 0)
 | .str y=>y.length<=ce/\k=((y.length:Int) != 0)
 | .byt y=>y.size<=ce/\k=((y.size:Int) != 0)
 | .ref p=>(∃ xs,aV K H p xs/\k= !xs.isEmpty)\/(∃ xs,cM K H p xs/\k= !xs.isEmpty)\/∃ kvs,H p=some (.dK kvs)/\k= !kvs.isEmpty
 |_=>False
def n6 {κ:Type}{kvs:List (κ×V)}{vs:List (κ×Value)}(r:KV kvs vs):(!vs.isEmpty)= !kvs.isEmpty:=by
 cases r<;>rfl
def iZ {its:List Value}(r:Vals xs its):(!its.toArray.isEmpty)= !xs.isEmpty:=by
 cases r<;>simp
def dv:(ce:Nat)<2 ^ 63:=by rw[sizeLine_eq];decide
def Bk:FT X (λx H Q=>∃ k,yo X.K x H k/\Q k H):=by
 intro Y s U H x v Q I rx h;obtain⟨k,e,q⟩:=h;have hl:=dv;have hs:ce=16777216:=sizeLine_eq;cases x with
 |non=>
  cases rx;have e':k=false:=e;subst e';exact truthy_none ⟨H,I,q⟩
 |bl b=>
  cases rx;have e':k=b:=e;subst e';exact bn ⟨H,I,q⟩
 |int i=>
  obtain⟨t,rfl⟩:=rx;have e':k=(i != 0):=e;subst e';exact PySem.P.truthy_int ⟨H,I,q⟩
 |str y=>
  obtain⟨t,rfl⟩:=rx;obtain⟨hy,e'⟩:y.length<=ce/\k=((y.length:Int) != 0):=e;subst e';exact PySem.P.truthy_str nofun ⟨H,I.tok _,q⟩
 |byt y=>
  obtain⟨t,rfl⟩:=rx;obtain⟨hy,e'⟩:y.size<=ce/\k=((y.size:Int) != 0):=e;subst e';exact W.truthy_bytes nofun ⟨H,I.tok _,q⟩
 |ref p=>
  cases rx;have e':(∃ xs,aV X.K H p xs/\k= !xs.isEmpty)\/(∃ xs,cM X.K H p xs/\k= !xs.isEmpty)\/∃ kvs,H p=some (.dK kvs)/\k= !kvs.isEmpty:=e;rcases e' with⟨xs,hx,e'⟩|⟨xs,hx,e'⟩|⟨kvs,hx,e'⟩
  .subst e';obtain⟨its,r,pl,hz⟩:=I.list hx;have hlen:=r.length;exact wpAny_truthy_list pl.isList (by simp only[io];omega) ⟨H,I.tok _,by rw[iZ r];exact q⟩
  .subst e';obtain⟨its,r,pl,hz⟩:=I.tuple hx;have hlen:=r.length;exact truthy_tuple pl (by simp only[io];omega) ⟨H,I.tok _,by rw[iZ r];exact q⟩
  .subst e';obtain⟨hz,hS,vs,r,m⟩:kvs.length<=ce/\(p ==sysModules)=false/\∃ vs,KV kvs vs/\s.heap.DictOf (aN X.prog X.w) p vs:=I.hok p _ hx;have hlen:kvs.length=vs.length:=Paired.length r;exact wpAny_truthy_dict hS m nofun ⟨H,I.tok _,by rw[n6 r];exact q⟩
 |_=>exact(show False from e).elim
def vz (ha:PE X a ta)(he:∀ whole,isTrue a X.env whole=(do let v <-whole;standAt a.pos;holding [v] (truthy v))):
  PT X a (λU H Q=>ta U H λx H'=>∃ k,yo X.K x H' k/\Q k H'):=by
 intro Y s U H Q I h;exact isTrue_plain (aG (ha Y s U H _ I h) λv s1 ⟨x,H1,I1,r1,q1⟩=>Bk Y s1 U H1 x v Q I1 r1 q1) (he _)
def pk:cL X (binaryOp .Add) (λx y H Q=>∃ i j,x=.str i/\y=.str j/\i.length+j.length<=ce/\Q (.str (i++j)) H):=by
 intro Y s U H x y v u Q I rx ry h;obtain⟨i,j,rfl,rfl,hz,q⟩:=h;obtain⟨t,rfl⟩:=rx;obtain⟨t',rfl⟩:=ry;exact add_str (λt' tk=>⟨.str (i++j),H,I.tok _,⟨_,rfl⟩,q⟩) hz
def vals1 {x:V}(r:Vals [x] us):∃ u,us=[u]/\RelV x u:=by
 cases r with
 |cons r1 r2=>cases r2;exact⟨_,rfl,r1⟩
def vals2 {x y:V}(r:Vals [x,y] us):∃ u w',us=[u,w']/\RelV x u/\RelV y w':=by
 cases r with
 |cons r1 r2=>
  cases r2 with
  |cons r3 r4=>cases r4;exact⟨_,_,rfl,r1,r3⟩
def rK:dy X (.type "int") (λxs H Q=>(∃ i,xs=[.int i]/\Q (.int i) H)\/∃ k,xs=[.bl k]/\Q (.int (if k then 1 else 0)) H):=by
 intro Y s U H xs us Q I r h;rcases h with⟨i,rfl,q⟩|⟨k,rfl,q⟩
 .obtain⟨u,rfl,t,rfl⟩:=vals1 r;exact call_int_int ⟨.int i,H,I,⟨_,rfl⟩,q⟩
 .obtain⟨u,rfl,r1⟩:=vals1 r;cases r1;exact call_int_bool ⟨.int (if k then 1 else 0),H,I.tok _,⟨_,rfl⟩,q⟩
def lB:dy X (.type "str") (λxs H Q=>∃ i,xs=[.int i]/\i.natAbs.log2<1920/\Q (.str (toString i)) H):=by
 intro Y s U H xs us Q I r h;obtain⟨i,rfl,hz,q⟩:=h;obtain⟨u,rfl,t,rfl⟩:=vals1 r;exact PySem.P.str_of_int hz ⟨.str _,H,I.tok _,⟨_,rfl⟩,q⟩
abbrev DH (K:W.Frag)(x:V)(H:Hp)(n:Nat):Prop:=
 match x with
 | .str y=>y.length<=ce/\n=y.length
 | .byt y=>y.size<=ce/\n=y.size
 | .ref p=>(∃ xs,aV K H p xs/\n=xs.length)\/∃ xs,cM K H p xs/\n=xs.length
 |_=>False
def uI:dy X (.builtin "len") (λxs H Q=>∃ x n,xs=[x]/\DH X.K x H n/\Q (.int n) H):=by
 intro Y s U H xs us Q I r h;obtain⟨x,n,rfl,e,q⟩:=h;obtain⟨u,rfl,rx⟩:=vals1 r;have hl:=dv;have hs:ce=16777216:=sizeLine_eq;cases x with
 |str y=>
  obtain⟨t,rfl⟩:=rx;obtain⟨hy,e'⟩:y.length<=ce/\n=y.length:=e;subst e';exact len_str nofun ⟨.int _,H,I.tok _,⟨_,rfl⟩,q⟩
 |byt y=>
  obtain⟨t,rfl⟩:=rx;obtain⟨hy,e'⟩:y.size<=ce/\n=y.size:=e;subst e';exact W.len_bytes nofun ⟨.int _,H,I.tok _,⟨_,rfl⟩,q⟩
 |ref p=>
  cases rx;have e':(∃ xs,aV X.K H p xs/\n=xs.length)\/∃ xs,cM X.K H p xs/\n=xs.length:=e;rcases e' with⟨xs,hx,e'⟩|⟨xs,hx,e'⟩
  .subst e';obtain⟨its,r',pl,hz⟩:=I.list hx;have hlen:=r'.length;exact Calls.call_len_list pl.isList (by simp only[io];omega) ⟨.int xs.length,H,I.tok _,⟨_,by simp only[io];rw[hlen]⟩,q⟩
  .subst e';obtain⟨its,r',pl,hz⟩:=I.tuple hx;have hlen:=r'.length;exact len_tuple pl (by simp only[io];omega) ⟨.int xs.length,H,I.tok _,⟨_,by simp only[io];rw[hlen]⟩,q⟩
 |_=>exact(show False from e).elim
end
structure pG (h:Heap) (x dx C:Addr) (mA:HE):Prop where
 obj:h.get? x=some (W.instObj C dx)
 ns:h.Ns1 dx mA
 ne:dx≠x
variable {mA:HE}
def gk {dx:Addr}(n:h.Ns1 dx mA):∃ od,h.get? dx=some od/\∀ name,W.lookIn name od=some (mA name):=by
 obtain⟨o,es,ep,ho,hd,hk,_,hm⟩:=n;refine⟨o,ho,λname=>?_⟩;have e:=hm name;unfold nsFind findBy at e;rw[<-Array.find?_toList]at e;unfold W.lookIn;rw[hd];dsimp only
 split
 .rename_i y q;rw[q]at e;exact congrArg some e
 .rename_i q;rw[q]at e;have a:es.toList.any (·.refKey)=false:=by
   rw[any_eq_false];intro y hy;obtain⟨z,t,hkey⟩:=hk y (Array.mem_toList_iff.mp hy);simp[DictEntry.refKey,hkey]
  have a':¬ es.toList.any (·.refKey)=true:=by rw[a];exact Bool.false_ne_true
  rw[if_neg a'];exact congrArg some e
variable {C:Addr}
def pG.look {x dx:Addr}(I:pG h x dx C mA):∃ od,W.InstAt h x (W.instObj C dx) C (some od)/\∀ name,W.lookIn name od=some (mA name):=
 let⟨od,ho,hl⟩:=gk I.ns
 ⟨od,⟨I.obj,rfl,rfl,ho⟩,hl⟩
variable {pl:Sem Bool}{kw:List (Str×Value)}
section
variable {prog:Program}{w:World}{A:Around}{E:HC}{s:Shared}{K:W.Frag}{x dx C f:Addr}{mA:HE}{name:Str}{v:Value}
def get_map {expr:Bool}(X:K.In s.heap)(I:pG s.heap x dx C mA)(hg:W.plainGet K C name=true)(hh:W.hasDictIn K C=true)
  (ha:W.findIn K (.ref C) name=some none) (hv:mA name=some v) (hv':W.handedIn v=true) (h:Q v { s with toks:=s.toks+1 }):
  wpAny (model prog w) A (getAttr (.ref x) name expr) Q E s:=by
 obtain⟨od,J,hl⟩:=I.look;exact W.get_value X J (W.plainGet_of hg).1 (W.findObj_own hh ha rfl (by rw[hl,hv])) hv' h
def vC {Q:Value×List Value->Shared->Prop}(X:K.In s.heap)(I:pG s.heap x dx C mA)(hg:W.plainGet K C name=true)
  (hf:W.findIn K (.ref C) name=some (some (.ref f))) (ht:W.isFn K (.ref f)=true) (hv:mA name=none) (h:Q (.ref f,[.ref x]) s):
  wpAny (model prog w) A (getMethod (.ref x) name pl) Q E s:=by
 obtain⟨od,J,hl⟩:=I.look;exact W.method_fn X J (W.plainGet_of hg).1 (W.plainGet_of hg).2 hf (beq_iff_eq.mp ht) (by show(W.lookIn name od).map (·.isSome)=some false;rw[hl,hv];rfl) h
def xT {ns:List Str}{Q:HB}(X:K.In s.heap)(I:pG s.heap x dx C mA)
  (hs:W.findIn K (.ref C) "__setattr__"=some (some (.builtin "object.__setattr__"))) (hp:W.plainOver K C=true) (ht:W.takerIn K C name=some none) (hh:W.hasDictIn K C=true)
  (hw:PySem.Within mA ns) (hsz:ns.length<=ce)
  (h:∀ h',pG h' x dx C (λy=>if y=name then some v else mA y)->Heap.SameBut dx s.heap h'->Q () { s with heap:=h',toks:=s.toks+2 }):
  wpAny (model prog w) A (setAttr (.ref x) name v) Q E s:=by
 obtain⟨od,J,hl⟩:=I.look;refine W.set_plain X J hs (W.osa_open (s:={ s with toks:=s.toks+1 }) (r:=none) X J hp ht λb=>?_);obtain⟨cd,hc,hd'⟩:=W.any_some hh;have hx:s.heap.get? x=some ⟨.ref C,some dx,.plain,#[]⟩:=I.obj;refine ap (bd (ap (ap (wpAny_loadPart hx (ap (W.Looks.here (s:={ s with toks:=s.toks+1 }) (W.looks_clsIn X hc) ?_))))));rw[hd'];refine bd (a:=some dx) (ap (bd (ap ?_)));refine wpAny_nsSet1 (s:={ s with toks:=s.toks+1 }) I.ns λh' hn2 hs2=>?_
 obtain⟨oD,esD,epD,hoD,hdD,hcD⟩:=hn2.count (PySem.Within.cons name v hw);refine ap (wpAny_lookBehind hoD (by rw[hdD];exact pastItsLine_dict (Nat.le_trans hcD (by rw[length_cons];omega))) ?_);exact bd (h _ ⟨(hs2.2 _ (Ne.symm I.ne)).trans I.obj,hn2,I.ne⟩ hs2)
def v9 {R:Result->Shared->Prop}{vs:List Value}(X:K.In s.heap)(hm:W.makesIn K C=true)
  (hi:W.findIn K (.ref C) "__init__"=some (some (.ref f))) (hf:W.typeIn K (.ref f)=some (.type "function"))
  (h:codeAny (model prog w) (A.under (.builtin "type.__call__" ⟨.ref C::vs,kw⟩)) (.call (.ref f) ⟨.ref (s.heap.objs.size+1)::vs,kw⟩) (W.InitBack (s.heap.objs.size+1) R)
   { s with heap:=(s.heap.push W.emptyDict).push (W.instObj C s.heap.objs.size) }):
  codeAny (model prog w) A (.call (.ref C) ⟨vs,kw⟩) R s:=by
 obtain⟨hh,g,d,t,os⟩:=s;exact W.make_core (W.makes_of X hm) (W.looks_findIn X hi) (λself=>W.bind_fn X self hf) (.inl rfl) h
end
abbrev cw (f:Str)(v:V):List (Str×V)->List (Str×V)
 | []=>[(f,v)]
 |(g,x)::r=>if g=f then(g,v)::r else(g,x)::cw f v r
def dH (f g:Str)(v:V):∀ fs:List (Str×V),(cw f v fs).lookup g=if g=f then some v else fs.lookup g
 | []=>by
  show List.lookup g [(f,v)]=_
  by_cases h:g=f
  .have hb:(g ==f)=true:=beq_iff_eq.mpr h;simp only[List.lookup,hb,if_pos h]
  .have hb:(g ==f)=false:=beq_eq_false_iff_ne.mpr h;simp only[List.lookup,hb,if_neg h]
 |(k,x)::r=>by
  have ih:=dH f g v r;rw[show cw f v ((k,x)::r)=(if k=f then(k,v)::r else(k,x)::cw f v r) from rfl]
  by_cases hk:k=f
  .rw[if_pos hk]
   by_cases h:g=k
   .have hb:(g ==k)=true:=beq_iff_eq.mpr h;simp only[List.lookup,hb,if_pos (h.trans hk)]
   .have hb:(g ==k)=false:=beq_eq_false_iff_ne.mpr h;simp only[List.lookup,hb,if_neg (λe:g=f=>h (e.trans hk.symm))]
  .rw[if_neg hk]
   by_cases h:g=k
   .have hb:(g ==k)=true:=beq_iff_eq.mpr h;simp only[List.lookup,hb,if_neg (λe:g=f=>hk (h.symm.trans e))]
   .have hb:(g ==k)=false:=beq_eq_false_iff_ne.mpr h;simp only[List.lookup,hb];exact ih
def cJ (f:Str)(v:V):∀ fs:List (Str×V),f ∈ (cw f v fs).map (·.1)/\∀ g,g ∈ fs.map (·.1)->g ∈ (cw f v fs).map (·.1)
 | []=>⟨by simp[cw],λg h=>by simp at h⟩
 |(k,x)::r=>by
  obtain⟨i1,i2⟩:=cJ f v r;rw[show cw f v ((k,x)::r)=(if k=f then(k,v)::r else(k,x)::cw f v r) from rfl]
  by_cases hk:k=f
  .rw[if_pos hk];subst hk;exact⟨by simp,λg h=>by simpa using h⟩
  .rw[if_neg hk];refine⟨?_,λg h=>?_⟩
   .rw[map_cons];exact f8 _ i1
   .rw[map_cons]at h⊢;rcases mo.mp h with e|e
    .exact mo.mpr (.inl e)
    .exact f8 _ (i2 g e)
def dG (f:Str)(v:V):∀ fs:List (Str×V),(cw f v fs).length<=fs.length+1
 | []=>by simp[cw]
 |(k,x)::r=>by
  have ih:=dG f v r;rw[show cw f v ((k,x)::r)=(if k=f then(k,v)::r else(k,x)::cw f v r) from rfl]
  by_cases hk:k=f
  .rw[if_pos hk,length_cons,length_cons];omega
  .rw[if_neg hk,length_cons,length_cons];omega
def cI.some_of {o:Option Value}(r:cI (some v) o):∃ u,o=some u/\RelV v u:=by
 cases o with
 |none=>exact(show False from r).elim
 |some u=>exact⟨u,rfl,r⟩
def cI.none_of {o:Option Value}(r:cI none o):o=none:=by
 cases o with
 |none=>rfl
 |some u=>exact(show False from r).elim
def kx (r:RelV v u):W.handedIn u=true:=by
 cases v with
 |non=>cases(show u=Value.none from r);rfl
 |bl b=>cases(show u=Value.bool b from r);rfl
 |int i=>obtain⟨t,e⟩:=(show ∃ t,u=Value.int i t from r);cases e;rfl
 |str x=>obtain⟨t,e⟩:=(show ∃ t,u=Value.str x t from r);cases e;rfl
 |byt b=>obtain⟨t,e⟩:=(show ∃ t,u=Value.bytes b t from r);cases e;rfl
 |flt b=>obtain⟨t,e⟩:=(show ∃ t,u=Value.float b t from r);cases e;rfl
 |ref a=>cases(show u=Value.ref a from r);rfl
 |ty n=>cases(show u=Value.type n from r);rfl
section
variable {P:Program}{w:World}{H H':Hp}{h h':Heap}{a C dx:Addr}{fs fs':List (Str×V)}
def fH (hok:fh P w H h)(e:H a=some (.ins C dx fs)):∃ mA,pG h a dx C mA/\(∀ f,cI (fs.lookup f) (mA f))/\PySem.Within mA (fs.map (·.1))/\fs.length<=1000/\H dx=some (.own a):=by
 obtain⟨d,z,ne,ob,mA,n,r,q⟩:=(show aJ P w H h a (.ins C dx fs) from hok a _ e);exact⟨mA,⟨ob,n,ne⟩,r,q,z,d⟩
end
structure xm (K:W.Frag) (C:Addr):Prop where
 pg:W.plainGet K C Str.empty=true
 hd:W.hasDictIn K C=true
 po:W.plainOver K C=true
 sa:W.findIn K (.ref C) "__setattr__"=some (some (.builtin "object.__setattr__"))
def xm.get (c:xm K C)(f:Str):W.plainGet K C f=true:=c.pg
abbrev dF (K:W.Frag)(C:Addr)(f:Str):Prop:=W.findIn K (.ref C) f=some none
def dF.EN {f:Str}(n:dF K C f):W.takerIn K C f=some none:=by
 unfold W.takerIn;rw[show W.findIn K (.ref C) f=some none from n]
 rfl
structure Meth (K:W.Frag) (C:Addr) (m:Str) (f:Addr):Prop where
 at_:W.findIn K (.ref C) m=some (some (.ref f))
 fn:W.isFn K (.ref f)=true
 kp:W.keepIn K (.ref f)=true
section
variable {X:Cx}{Y:HD}{U:St}{H:Hp}{s:Shared}{a C dx:Addr}{fs:List (Str×V)}{f:Str}{v:V}{A:Around}{E:HC}
def jd {b:Bool}(I:Inv X Y U H s)(e:H a=some (.ins C dx fs))(c:xm X.K C)(n:dF X.K C f)(l:fs.lookup f=some v)
  (h:∀ u s',Inv X Y U H s'->RelV v u->Q u s'):wpAny (model X.prog X.w) A (getAttr (.ref a) f b) Q E s:=by
 obtain⟨mA,O,r,_,_,_⟩:=fH I.hok e;obtain⟨u,hu,ru⟩:=cI.some_of (v:=v) (o:=mA f) (by rw[<-l];exact r f);exact get_map I.bF O (c.get f) c.hd n hu (kx ru) (h u _ (I.tok _) ru)
def pF {m:Str}{g:Addr}{Q:Value×List Value->Shared->Prop}(I:Inv X Y U H s)(e:H a=some (.ins C dx fs))(c:xm X.K C)(k:Meth X.K C m g)(l:fs.lookup m=none)
  (h:Q (.ref g,[.ref a]) s):wpAny (model X.prog X.w) A (getMethod (.ref a) m pl) Q E s:=by
 obtain⟨mA,O,r,_,_,_⟩:=fH I.hok e;have hn:mA m=none:=cI.none_of (by rw[<-l];exact r m);exact vC I.bF O (c.get m) k.at_ k.fn hn h
def ju {y:V}{Q:HB}(I:Inv X Y U H s)(e:H a=some (.ins C dx fs))(c:xm X.K C)(n:dF X.K C f)(hl:fs.length<1000)(ry:RelV y u)
  (h:∀ s',Inv X Y U (upd H a (.ins C dx (cw f y fs))) s'->Q () s'):wpAny (model X.prog X.w) A (setAttr (.ref a) f u) Q E s:=by
 obtain⟨mA,O,r,wi,_,ho⟩:=fH I.hok e;have hz:(fs.map (·.1)).length<=ce:=by rw[cr,sizeLine_eq];omega
 refine xT I.bF O c.sa c.po n.EN c.hd wi hz λh' O' sb=>h _ ?_
 have hd:∃ o,h'.get? dx=some o:=let⟨o,_,_,e',_⟩:=O'.ns;⟨o,e'⟩;refine I.write (x:=a) (e:=dx) (by rw[e];exact True.intro) (.inr ho) (λb q hb z=>(sb.2 b hb).trans z) hd ?_;refine⟨by rw[af O.ne];exact ho,?_,O.ne,O'.obj,_,O'.ns,λg=>?_,λg hg=>?_⟩
 .have:=dG f y fs;omega
 .show cI ((cw f y fs).lookup g) (if g=f then some u else mA g);rw[dH]
  by_cases q:g=f
  .rw[if_pos q,if_pos q];exact ry
  .rw[if_neg q,if_neg q];exact r g
 .by_cases q:g=f
  .rw[q];exact(cJ f y fs).1
  .refine(cJ f y fs).2 g (wi g λz=>hg ?_);show(if g=f then some u else mA g)=none;rw[if_neg q];exact z
def Inv.made (I:Inv X Y U H s):Inv X Y U (upd (upd H s.heap.objs.size (.own (s.heap.objs.size+1))) (s.heap.objs.size+1) (.ins C s.heap.objs.size []))
  { s with heap:=(s.heap.push W.emptyDict).push (W.instObj C s.heap.objs.size) }:=by
 have e1:(s.heap.push W.emptyDict).get? s.heap.objs.size=some W.emptyDict:=ut s.heap rfl;have e2:((s.heap.push W.emptyDict).push (W.instObj C s.heap.objs.size)).get? (s.heap.objs.size+1)=some (W.instObj C s.heap.objs.size):=by
  have:=ut (s.heap.push W.emptyDict) (o:=W.instObj C s.heap.objs.size) rfl
  rwa [Heap.size_push]at this
 have e3:(s.heap.push W.emptyDict).Ns s.heap.objs.size (λ_=>none):=⟨W.emptyDict,#[],_,e1,rfl,(λe he=>absurd he (by simp)),λ_=>rfl⟩;have I1:=I.laid (a:=s.heap.objs.size) (o:=.own (s.heap.objs.size+1)) (h':=s.heap.push W.emptyDict) (t':=s.toks) (λb u q=>u8 _ q) (s0 _) ⟨_,e1⟩;refine I1.laid (a:=s.heap.objs.size+1) (o:=.ins C s.heap.objs.size []) (t':=s.toks) (λb u q=>u8 _ q) (Nat.le_of_eq (Heap.size_push _ _)) ?_;have ne:s.heap.objs.size≠s.heap.objs.size+1:=re (Nat.lt_succ_self _);refine⟨by rw[af ne,aA],Nat.zero_le _,ne,e2,λ_=>none,(Heap.Ns1.of_empty e3).at λo q=>u8 _ q,λ_=>True.intro,λy hy=>absurd rfl hy⟩
def xi {prog:Program}{env:Env}(hb:attributeBase e f env (eval e env)=eval e env)
  (h:wpAny (model prog w) A (eval e env) (λo s₁=>wpAny (model prog w) A (getAttr o f true) Q E s₁) E s):wpAny (model prog w) A (eval (.Attribute e f pos) env) Q E s:=
 Attribute_any_ h (by rw[arm_eval_Attribute,hb])
end
section
variable {X:Cx}{o e value:Expr}{f:Str}{pos pos' tpos:Pos}{ta tv:TE}
end
section
variable {X:Cx}{Y:HD}{U:St}{H:Hp}{s:Shared}{A:Around}{E:HC}{Q:HC}{c:Value}{b:Bool}
inductive gh (K:W.Frag) (H:Hp):V->Value->Prop where
 |non:gh K H .non (.type "NoneType")
 |bl (x:Bool):gh K H (.bl x) (.type "bool")
 |int (i:Int):gh K H (.int i) (.type "int")
 |str (x:Str):gh K H (.str x) (.type "str")
 |flt (x:UInt64):gh K H (.flt x) (.type "float")
 |lst {a:Addr}{xs:List V}(e:H a=some (.lst xs)):gh K H (.ref a) (.type "list")
 |kn {a:Addr}{o:Obj}{xs:List V}(e:H a=some (.kn o (.lst xs))):gh K H (.ref a) (.type "list")
 |tup {a:Addr}{xs:List V}(e:H a=some (.tup xs)):gh K H (.ref a) (.type "tuple")
 |dK {a:Addr}{kvs:List (Key×V)}(e:Rd H a (.dK kvs)):gh K H (.ref a) (.type "dict")
 |dT {a:Addr}{kvs:List (List Key×V)}(e:H a=some (.dT kvs)):gh K H (.ref a) (.type "dict")
 |ins {a C dx:Addr}{fs:List (Str×V)}(e:H a=some (.ins C dx fs)) (cl:xm K C) (ha:W.findIn K (.ref C) "__class__"=some (some (.builtin "object.__class__")))
   (hn:W.specialIn K (.builtin "object.__class__") "__get__"=some (some (.builtin "getset_descriptor.__get__"))) (htk:W.takesIn K (.builtin "object.__class__")=some true)
   (hm:W.mroIn K C (.type "object")=some true):gh K H (.ref a) (.ref C)
def gz {x:V}{t:Value}(I:Inv X Y U H s)(rx:RelV x u)(ty:gh X.K H x t)(e:W.kitOne X.K t c=some b)(h:∀ tk,Q (.bool b) { s with toks:=tk }):
  wpAny (model X.prog X.w) A (call (.builtin "isinstance") [u,c]) Q E s:=by
 cases ty with
 |non=>cases(show u=Value.none from rx);exact W.kia_one W.kitx_none I.bF True.intro e (λz=>nomatch z) h
 |bl y=>cases(show u=Value.bool y from rx);exact W.kia_one W.kitx_bool I.bF True.intro e (λz=>nomatch z) h
 |int i=>obtain⟨t,q⟩:=(show ∃ t,u=Value.int i t from rx);cases q;exact W.kia_one W.kitx_int I.bF True.intro e (λz=>nomatch z) h
 |str y=>obtain⟨t,q⟩:=(show ∃ t,u=Value.str y t from rx);cases q;exact W.kia_one W.kitx_str I.bF True.intro e (λz=>nomatch z) h
 |flt y=>obtain⟨t,q⟩:=(show ∃ t,u=Value.float y t from rx);cases q;exact W.kia_one W.kitx_float I.bF True.intro e (λz=>nomatch z) h
 | @lst a xs ea=>
  cases(show u=Value.ref a from rx);obtain⟨_,_,n,_,h1⟩:=(show aJ X.prog X.w H s.heap a (.lst xs) from I.hok a _ ea);exact W.kia_one W.kitx_list I.bF ⟨_,h1,rfl⟩ e (λz=>nomatch z) h
 | @kn a ob xs ea=>
  cases(show u=Value.ref a from rx);obtain⟨_,_,_,n,_,h1⟩:=(show aJ X.prog X.w H s.heap a (.kn ob (.lst xs)) from I.hok a _ ea);exact W.kia_one W.kitx_list I.bF ⟨_,h1,rfl⟩ e (λz=>nomatch z) h
 | @tup a xs ea=>
  cases(show u=Value.ref a from rx);obtain⟨_,_,_,p⟩:=(show aJ X.prog X.w H s.heap a (.tup xs) from I.hok a _ ea);obtain⟨o,h1,h2,_⟩:=p;exact W.kia_one W.kitx_tuple I.bF ⟨o,h1,h2⟩ e (λz=>nomatch z) h
 | @dK a kvs ea=>
  cases(show u=Value.ref a from rx);obtain⟨_,_,vs,_,p⟩:=(show aJ X.prog X.w H s.heap a (.dK kvs) from ea.ok I.hok);obtain⟨o,es,ep,h1,h2,_⟩:=p;exact W.kia_one W.kitx_dict I.bF ⟨o,h1,h2.1⟩ e (λz=>nomatch z) h
 | @dT a kvs ea=>
  cases(show u=Value.ref a from rx);obtain⟨_,_,xs,_,o,es,ep,h1,h2,_⟩:=(show aJ X.prog X.w H s.heap a (.dT kvs) from I.hok a _ ea);exact W.kia_one W.kitx_dict I.bF ⟨o,h1,h2.1⟩ e (λz=>nomatch z) h
 | @ins a C dx fs ea cl ha hn htk hm=>
  cases(show u=Value.ref a from rx);obtain⟨mA,O,_⟩:=fH I.hok ea;obtain⟨od,J,_⟩:=O.look;exact W.kia_one (W.kitx_own (cl.get _) cl.hd ha hn htk hm) I.bF J e (λz=>nomatch z) h
end
structure bC (k:Nat) (A:Around):Prop where
 hd:A.handled=none
 dp:A.depth+3*k+5<recursionLimit
 un:A.units+16*k+200<cLine
def bC.mono {j:Nat}(r:bC k A)(h:j<=k):bC j A:=⟨r.hd,by have:=r.dp;omega,by have:=r.un;omega⟩
def bC.deeper (r:bC (k+1) A)(env:Env):bC k (A.deeper env):=
 ⟨r.hd,by have:=r.dp;show A.depth+1+3*k+5<_;omega,by have:=r.un;show A.units+3+16*k+200<_;omega⟩
def pv:(A.under (.builtin "type.__call__" ⟨.ref C::us,kw⟩)).depth=A.depth+1:=by
 first|rfl|simp[Around.under,Code.weight,Code.isCreation,Code.isGuard,Code.isCaller,Code.frames,Code.isFrame,guardIds]
def ou:(A.under (.builtin "type.__call__" ⟨.ref C::us,kw⟩)).units=A.units+1:=by
 first|rfl|simp[Around.under,Code.cUnits,Code.frames,Code.isFrame]
def bC.make (r:bC (k+1) A)(C:Addr)(us:List Value)(kw:List (Str×Value)):bC k (A.under (.builtin "type.__call__" ⟨.ref C::us,kw⟩)):=
 ⟨r.hd,by have:=r.dp;rw[pv];omega,by have:=r.un;rw[ou];omega⟩
def bC.depth (r:bC k A):A.depth<recursionLimit:=by have:=r.dp;omega
abbrev wQ:TA:=λ_ H Q=>Q [] H
abbrev Ac (ta:TE)(tr:TA):TA:=λU H Q=>ta U H λx H1=>tr U H1 λxs H2=>Q (x::xs) H2
section
variable {X:Cx}{e:Expr}{es:List Expr}{te:TE}{t:TA}{pos:Pos}
def jw:PA X [] wQ:=λ_ _ _ _ H Q I h=>Calls.spliced_nil ⟨[],H,I,.nil,h⟩
def yx (ha:PE X e te)(hr:PA X es t)(hs:bv (e::es) X.env=(false,eval e X.env)::bv es X.env:=by rfl):PA X (e::es) (Ac te t):=by
 intro pos Y s U H Q I h;rw[hs];show wpAny _ _ (spliced ((false,eval e X.env)::backTo pos (bv es X.env))) _ _ s;refine Calls.spliced_cons (aG (ha Y s U H _ I h) λu s1 ⟨x,H1,I1,r1,q1⟩=>?_);exact aG (hr pos Y s1 U H1 _ I1 q1) λus s2 ⟨xs,H2,I2,r2,q2⟩=>⟨x::xs,H2,I2,.cons r1 r2,q2⟩
abbrev Fh (t:TA):TE:=λU H Q=>t U H λxs H1=>xs.length<=ce/\∀ p,H1 p=none->Q (.ref p) (upd H1 p (.tup xs))
abbrev F7 (t:TA):TE:=λU H Q=>t U H λxs H1=>xs.length<=ce/\∀ p,H1 p=none->Q (.ref p) (upd H1 p (.lst xs))
def B8 {x1} (h:PA X es t):PE X (.Tuple es x1 pos) (Fh t):=by
 intro Y s U H Q I hq;refine wpAny_Tuple_spliced (aG (h pos Y s U H _ I hq) λus s1 ⟨xs,H1,I1,r,z,q⟩=>⟨by rw[<-r.length];exact z,?_⟩);have hf:H1 s1.heap.objs.size=none:=I1.hok.fresh (s0 _);refine⟨.ref s1.heap.objs.size,upd H1 s1.heap.objs.size (.tup xs),I1.laid (t':=s1.toks) (λb u e=>u8 _ e) (s0 _) ?_,rfl,q _ hf⟩;exact⟨z,us,r,⟨_,ut _ rfl,rfl,_,rfl⟩⟩
def Bp (h:PA X es t):PE X (.List es pos) (F7 t):=by
 intro Y s U H Q I hq;refine wpAny_List_spliced (aG (h pos Y s U H _ I hq) λus s1 ⟨xs,H1,I1,r,z,q⟩=>⟨by rw[<-r.length];exact z,?_⟩);have hf:H1 s1.heap.objs.size=none:=I1.hok.fresh (s0 _);refine⟨.ref s1.heap.objs.size,upd H1 s1.heap.objs.size (.lst xs),I1.laid (t':=s1.toks) (λb u e=>u8 _ e) (s0 _) ?_,rfl,q _ hf⟩;exact⟨z,us,0,r,ut _ rfl⟩
end
@[reducible]def Sp:=List V->Hp->VK->XK->Prop
@[reducible]def qd:=List Env->Hp->Shared->XK->Value->Shared->Prop
structure nY (P:Program) (w:World) (K:W.Frag) (mg:HE) (base:Heap) (A:Around) (outer:List Env) (s:Shared) (H:Hp):Prop where
 frames:A.frames=some outer
 mod:Mod K mg base
 bs:∀ b o,base.get? b=some o->s.heap.get? b=some o/\H b=none
 bsz:base.objs.size<=s.heap.objs.size
 ik:s.heap.FunFrames base outer
 frf:∀ b ∈ k6 outer,H b=none
 hok:fh P w H s.heap
 bare:AllBare s.gens
abbrev CE (outer:List Env)(P:Program)(w:World)(H:Hp)(s:Shared)(Q:VK)(u:Value)(s':Shared):Prop:=
 ∃ v H',s'.os=s.os/\AllBare s'.gens/\Un (k6 outer) [] H H' s.heap s'.heap/\fh P w H' s'.heap/\RelV v u/\Q v H'
abbrev CR (CX:qd)(outer:List Env)(P:Program)(w:World)(H:Hp)(s:Shared)(Q:VK)(E:XK)(r:Result)(s':Shared):Prop:=
 match r with
 | .ok (.ret u)=>CE outer P w H s Q u s'
 | .ok _=>False
 | .error e=>CX outer H s E e s'
structure cF (P:Program) (w:World) (K:W.Frag) (mg:HE) (base:Heap) (CX:qd) (k:Nat) (f:Addr) (fd:FuncData) (ps:List Str) (sp:Sp):Prop where
 len:∀ vs H Q E,sp vs H Q E->vs.length=ps.length
 run:∀ (A:Around) (outer:List Env) (s:Shared) (H:Hp) (args:Args) (us:List Value) (vs:List V) (Q:VK) (E:XK),bC k A->nY P w K mg base A outer s H->BindsTo s fd args (ps.zip us)->Vals vs us->sp vs H Q E->
  codeAny (model P w) A (.call (.ref f) args) (CR CX outer P w H s Q E) s
variable {mg:HE}{base:Heap}{CX:qd}{fd:FuncData}{ps:List Str}
def cF.imp {f:Addr}{sp sp':Sp}(F:cF P w K mg base CX k f fd ps sp)
  (h:∀ vs H Q E,sp' vs H Q E->sp vs H Q E):cF P w K mg base CX k f fd ps sp':=
 ⟨λvs H Q E q=>F.len vs H Q E (h _ _ _ _ q),λA outer s H args us vs Q E hr he hb hv hs=>F.run A outer s H args us vs Q E hr he hb hv (h _ _ _ _ hs)⟩
variable {outer:List Env}
def nY.make (e:nY P w K mg base A outer s H)(C:Addr)(us:List Value)(kw:List (Str×Value)):
  nY P w K mg base (A.under (.builtin "type.__call__" ⟨.ref C::us,kw⟩)) outer s H:=⟨by first|exact e.frames|(simpa[Around.under,Code.envs,Code.isFrame,pushEnvs] using e.frames),e.mod,e.bs,e.bsz,e.ik,e.frf,e.hok,e.bare⟩
section
variable {X:Cx}{Y:HD}{U:St}{H:Hp}{s s':Shared}
def Inv.gj (I:Inv X Y U H s):nY X.prog X.w X.K X.mg X.base X.A X.stack s H:=
 ⟨I.ok.frames,I.ok.mod,I.bs,Nat.le_trans I.ok.bsz I.sz,I.stack,I.lM,I.hok,I.bare⟩
def Inv.after {Q:VK}(I:Inv X Y U H s)(h:CE X.stack X.prog X.w H s Q u s'):EP X Y U Q u s':=by
 obtain⟨v,H',os,bare,un,hok,r,q⟩:=h;obtain⟨hh,g,d,t,os'⟩:=s';obtain rfl:os'=s.os:=os;exact⟨v,H',I.call (h':=hh) (g':=g) (d':=d) (t':=t) (ch:=[]) un hok bare (λb z=>absurd z (by simp)),r,q⟩
end
abbrev zI (sp:Sp)(dvs:List V)(E:St->XK)(t:TA):TE:=λU H Q=>t U H λvs H1=>sp (vs++dvs) H1 Q (E U)
abbrev Ap (C:Addr)(sp:Sp)(dvs:List V)(E:St->XK)(t:TA):TE:=λU H Q=>t U H λvs H1=>∀ x dx,H1 x=none->H1 dx=none->dx≠x->
 sp (.ref x::(vs++dvs)) (upd (upd H1 dx (.own x)) x (.ins C dx [])) (λv H2=>v=.non/\Q (.ref x) H2) (E U)
abbrev Binds (K:W.Frag)(fd:FuncData)(ps:List Str)(ds:List Value):Prop:=
 ∀ (s:Shared) (us:List Value),K.In s.heap->(us++ds).length=ps.length->BindsTo s fd ⟨us,[]⟩ (ps.zip (us++ds))
def Binds.all (h:∀ us:List Value,us.length=ps.length->bindArgs fd ⟨us,[]⟩=pure (ps.zip us)):Binds K fd ps []:=λs us _ hl=>by
 rw[append_nil]at hl⊢;exact .of_eq (h us hl)
abbrev Passes (CX:qd)(X:Cx)(E:St->XK):Prop:=∀ (Y:HD) (U:St) (H:Hp) (s:Shared) (e:Value) (s':Shared),Inv X Y U H s->CX X.stack H s (E U) e s'->X.xe e s'
variable {vs:List V}
section
variable {X:Cx}{CX:qd}{k:Nat}{f C:Addr}{fd:FuncData}{ps:List Str}{sp:Sp}{dvs:List V}{ds:List Value}{E:St->XK}{x m:Str}{p pos apos:Pos}{e o:Expr}{es:List Expr}{ta:TE}{t:TA}
def kO {Q:VK}(F:cF X.prog X.w X.K X.mg X.base CX k f fd ps sp)(hr:bC k X.A)(hb:Binds X.K fd ps ds)(hd:Vals dvs ds)(hx:Passes CX X E)
  (I:Inv X Y U H s) (r:Vals vs us) (h:sp (vs++dvs) H Q (E U)):wpAny (model X.prog X.w) X.A (call (.ref f) us) (EP X Y U Q) X.xe s:=by
 have r2:Vals (vs++dvs) (us++ds):=r.append hd;have hl:(us++ds).length=ps.length:=by rw[<-r2.length];exact F.len _ _ _ _ h
 refine wpAny_call (codeAny_mono (F.run X.A X.stack s H ⟨us,[]⟩ (us++ds) (vs++dvs) Q (E U) hr I.gj (hb s us I.bF hl) r2 h) λr s' hq=>?_);cases r with
 |error e=>exact hx Y U H s e s' I hq
 |ok fl=>
  cases fl with
  |ret u=>exact I.after hq
  |next=>exact False.elim hq
  |brk=>exact False.elim hq
  |cont=>exact False.elim hq
def xH (F:cF X.prog X.w X.K X.mg X.base CX k f fd ps sp)(hr:bC k X.A)(hg:Gl X x)(hm:X.mg x=some (.ref f))(hk:W.keepIn X.K (.ref f)=true)(hb:Binds X.K fd ps ds)(hd:Vals dvs ds)(hx:Passes CX X E)
  (ha:PA X (e::es) t) (hdb:(x ==("__debug__":Str))=false:=by decide) (he:bv (e::es) X.env=(false,eval e X.env)::bv es X.env:=by rfl) (hpl:(backTo pos (bv es X.env)).any (·.1)=false:=by rfl):
  PE X (.Call (.Name x p) (e::es) [] pos) (zI sp dvs E t):=by
 intro Y s U H Q I h;refine ci (ba I hg hm ?_ hdb);refine W.callWith_K (h₀:=X.base) I.ok.mod.kin hk (aG (ha pos Y s U H _ I h) λus s1 ⟨vs,H1,I1,r,q⟩=>⟨I1.bF,?_⟩) he hpl;exact kO F hr hb hd hx I1 r q
def tM (F:cF X.prog X.w X.K X.mg X.base CX k f fd ps sp)(hr:bC k X.A)(hg:Gl X x)(hm:X.mg x=some (.ref f))(hk:W.keepIn X.K (.ref f)=true)(hb:Binds X.K fd ps ds)(hd:Vals dvs ds)(hx:Passes CX X E)
  (hdb:(x ==("__debug__":Str))=false:=by decide):PE X (.Call (.Name x p) [] [] pos) (zI sp dvs E wQ):=by
 intro Y s U H Q I h;refine ci (ba I hg hm ?_ hdb);exact W.callWith_K0 I.bF hk (kO (us:=[]) F hr hb hd hx I .nil h)
structure Mk (K:W.Frag) (C f:Addr):Prop where
 makes:W.makesIn K C=true
 init:W.findIn K (.ref C) "__init__"=some (some (.ref f))
 fn:W.isFn K (.ref f)=true
 kp:W.keepIn K (.ref C)=true
def mX {Q:VK}(M:Mk X.K C f)(F:cF X.prog X.w X.K X.mg X.base CX k f fd ps sp)(hr:bC (k+1) X.A)(hb:Binds X.K fd ps ds)(hd:Vals dvs ds)
  (hx:Passes CX X E) (I:Inv X Y U H s) (r:Vals vs us)
  (h:∀ x dx,H x=none->H dx=none->dx≠x->sp (.ref x::(vs++dvs)) (upd (upd H dx (.own x)) x (.ins C dx [])) (λv H2=>v=.non/\Q (.ref x) H2) (E U)):
  wpAny (model X.prog X.w) X.A (call (.ref C) us) (EP X Y U Q) X.xe s:=by
 have hq:=h (s.heap.objs.size+1) s.heap.objs.size (I.hok.fresh (Nat.le_succ _)) (I.hok.fresh (s0 _)) (re (Nat.lt_succ_self _));have I2:=Inv.made (C:=C) I;have r2:Vals (V.ref (s.heap.objs.size+1)::(vs++dvs)) (Value.ref (s.heap.objs.size+1)::(us++ds)):=.cons rfl (r.append hd);have hl:(Value.ref (s.heap.objs.size+1)::us++ds).length=ps.length:=by
  have e:=r2.length;rw[F.len _ _ _ _ hq]at e;exact e.symm
 refine wpAny_call (v9 (f:=f) I.bF M.makes M.init (beq_iff_eq.mp M.fn) (codeAny_mono (F.run _ X.stack _ _ ⟨Value.ref (s.heap.objs.size+1)::us,[]⟩ (Value.ref (s.heap.objs.size+1)::(us++ds)) _ _ (E U) (hr.make C us [])
  (I2.gj.make C us []) (hb _ (Value.ref (s.heap.objs.size+1)::us) I2.bF hl) r2 hq) λr s' hq'=>?_))
 cases r with
 |error e=>exact hx Y U _ _ e s' I2 hq'
 |ok fl=>
  cases fl with
  |ret u=>
   obtain⟨v,H',I3,rv,ev,q3⟩:=I2.after hq';subst ev;exact⟨rv,⟨V.ref (s.heap.objs.size+1),H',I3,rfl,q3⟩⟩
  |next=>exact False.elim hq'
  |brk=>exact False.elim hq'
  |cont=>exact False.elim hq'
def yV (M:Mk X.K C f)(F:cF X.prog X.w X.K X.mg X.base CX k f fd ps sp)(hr:bC (k+1) X.A)(hg:Gl X x)(hm:X.mg x=some (.ref C))(hb:Binds X.K fd ps ds)(hd:Vals dvs ds)(hx:Passes CX X E)
  (ha:PA X (e::es) t) (hdb:(x ==("__debug__":Str))=false:=by decide) (he:bv (e::es) X.env=(false,eval e X.env)::bv es X.env:=by rfl) (hpl:(backTo pos (bv es X.env)).any (·.1)=false:=by rfl):
  PE X (.Call (.Name x p) (e::es) [] pos) (Ap C sp dvs E t):=by
 intro Y s U H Q I h;refine ci (ba I hg hm ?_ hdb);refine W.callWith_K (h₀:=X.base) I.ok.mod.kin M.kp (aG (ha pos Y s U H _ I h) λus s1 ⟨vs,H1,I1,r,q⟩=>⟨I1.bF,?_⟩) he hpl;exact mX M F hr hb hd hx I1 r q
def uM (M:Mk X.K C f)(F:cF X.prog X.w X.K X.mg X.base CX k f fd ps sp)(hr:bC (k+1) X.A)(hg:Gl X x)(hm:X.mg x=some (.ref C))(hb:Binds X.K fd ps ds)(hd:Vals dvs ds)(hx:Passes CX X E)
  (hdb:(x ==("__debug__":Str))=false:=by decide):PE X (.Call (.Name x p) [] [] pos) (Ap C sp dvs E wQ):=by
 intro Y s U H Q I h;refine ci (ba I hg hm ?_ hdb);exact W.callWith_K0 I.bF M.kp (mX (us:=[]) M F hr hb hd hx I .nil h)
end
section
variable {X:Cx}{CX:qd}{k:Nat}{f C:Addr}{fd:FuncData}{ps ks:List Str}{sp:Sp}{E:St->XK}{x m:Str}{p pos apos kpos:Pos}{e o:Expr}{es:List Expr}{kws:List Keyword}{te ta:TE}{t tk:TA}{nm:Option Str}
variable {g:List Value->List Value->List Value}{gV:List V->List V->List V}
end
structure iz (N P:List Str) (sc:Scope):Prop where
 kind:sc.kind=.function
 co:sc.isCoroutine=false
 gen:sc.isGenerator=false
 nd:N.Nodup
 pre:N.take P.length=P
 par:∀ x ∈ P,sc.names.lookup x=some .local\/sc.names.lookup x=some .cell
 nofree:∀ y ∈ sc.names,y.2≠.free
def kB {kindOf:Str->Option NameKind}{x:Str}:∀ {binds:List (Str×Value)}{m:HE},(∀ v,(x,v) ∉ binds)->bindL kindOf binds m x=m x
 | [],_,_=>rfl
 |(n,v)::r,m,h=>by
  unfold bindL;rw[kB λw hw=>h w (f8 _ hw)]
  split
  .have:x≠n:=by rintro rfl;exact h v lw
   simp[this]
  .rfl
def kq {kindOf:Str->Option NameKind}{x:Str}:∀ {binds:List (Str×Value)}{m:HE},(∀ v,(x,v) ∉ binds)->bindC kindOf binds m x=m x
 | [],_,_=>rfl
 |(n,v)::r,m,h=>by
  unfold bindC;rw[kq λw hw=>h w (f8 _ hw)]
  split
  .rfl
  .have:x≠n:=by rintro rfl;exact h v lw
   simp[this]
def jY {kindOf:Str->Option NameKind}{x:Str}{v:Value}:∀ {P:List Str}{vs:List Value}{i:Nat}{m:HE},P.Nodup->P[i]? =some x->vs[i]? =some v->kindOf x=some .local->
  bindL kindOf (P.zip vs) m x=some v
 | [],_,_,_,_,h,_,_=>by simp at h
 |_::_,[],_,_,_,_,h,_=>by simp at h
 |p::P,w::vs,0,m,nd,h1,h2,hk=>by
  simp at h1 h2;subst h1;subst h2;show bindL kindOf ((p,w)::P.zip vs) m p=_;unfold bindL;rw[kB λv hv=>(nodup_cons.mp nd).1 (of_mem_zip hv).1,if_pos hk];simp
 |p::P,w::vs,i+1,m,nd,h1,h2,hk=>by
  show bindL kindOf ((p,w)::P.zip vs) m x=_;unfold bindL;exact jY (i:=i) (nodup_cons.mp nd).2 (by simpa using h1) (by simpa using h2) hk
def kh {kindOf:Str->Option NameKind}{x:Str}{v:Value}:∀ {P:List Str}{vs:List Value}{i:Nat}{m:HE},P.Nodup->P[i]? =some x->vs[i]? =some v->kindOf x≠some .local->
  bindC kindOf (P.zip vs) m x=some v
 | [],_,_,_,_,h,_,_=>by simp at h
 |_::_,[],_,_,_,_,h,_=>by simp at h
 |p::P,w::vs,0,m,nd,h1,h2,hk=>by
  simp at h1 h2;subst h1;subst h2;show bindC kindOf ((p,w)::P.zip vs) m p=_;unfold bindC;rw[kq λv hv=>(nodup_cons.mp nd).1 (of_mem_zip hv).1,if_neg hk];simp
 |p::P,w::vs,i+1,m,nd,h1,h2,hk=>by
  show bindC kindOf ((p,w)::P.zip vs) m x=_;unfold bindC;exact kh (i:=i) (nodup_cons.mp nd).2 (by simpa using h1) (by simpa using h2) hk
abbrev start (N:List Str)(vs:List V):St:=vs.map some++sK (N.length-vs.length) none
abbrev sM (CX:qd)(P:Program)(w:World)(K:W.Frag)(mg:HE)(base:Heap)(N:List Str)(qual:Str)(scope:Scope)(f:Addr)(cd:Value)(A:Around)(outer:List Env)(s:Shared)(H:Hp)(E:XK):Cx where
 prog:=P
 w:=w
 K:=K
 mg:=mg
 base:=base
 A:=A.deeper (envOfC qual scope s.heap.objs.size f cd)
 N:=N
 s₀:=s
 H₀:=H
 env:=envOfC qual scope s.heap.objs.size f cd
 outer:=outer
 stack:=envOfC qual scope s.heap.objs.size f cd::outer
 ex:=[]
 calm:=true
 fn:=λ_=>true
 pn:=[]
 xe:=λe s'=>wpAny (model P w) (A.deeper (envOfC qual scope s.heap.objs.size f cd)) (leaving (envOfC qual scope s.heap.objs.size f cd) e) (λ_ s''=>CX outer H s E e s'') (λe' s''=>CX outer H s E e' s'') s'
def nI {sc:Scope}{n:Nat}(h:sc.names.lookup x=some .cell):∃ c,(cellsFrom n sc.names []).lookup x=some c:=by
 have q:=W.cellsFrom_some sc.names n [] (.inl h);exact Option.isSome_iff_exists.mp q
variable {scope:Scope}
def rJ {N:List Str}{qual:Str}{f:Addr}{cd:Value}{s1:Shared}{E:XK}
  (S:iz N ps scope) (hd:A.handled=none) (e0:nY P w K mg base A outer s H) (hl:vs.length=ps.length) (r:Vals vs us)
  (x:InCallC s s.heap.objs.size (bindL (envOfC qual scope s.heap.objs.size f cd).kindOf (ps.zip us) λ_=>none) (cellsFrom (s.heap.objs.size+1) scope.names []) (bindC (envOfC qual scope s.heap.objs.size f cd).kindOf (ps.zip us) λ_=>none) s1):
  Inv (sM CX P w K mg base N qual scope f cd A outer s H E) [] (start N vs) H s1:=by
 have hpl:ps.length<=N.length:=by have:=congrArg List.length S.pre;rw[dL]at this;omega
 obtain⟨h1,tk,rfl,hk⟩:=x.done;have noA:∀ b:Addr,b ∉ (sM CX P w K mg base N qual scope f cd A outer s H E).ex:=λb z=>absurd (show b ∈ ([]:List Addr) from z) (by simp)
 refine⟨⟨e0.mod,S.kind,rfl,rfl,s0 _,λy z c h1 h2=>?_,λy hy=>?_,λy c _ h=>?_,λ_=>hd,Around.frames_deeper e0.frames,.inr ⟨rfl,rfl⟩,λb z=>absurd z (noA b),e0.bs,e0.bsz,λb _ _=>noA b,λb z=>absurd z (noA b),e0.ik,e0.frf⟩,
  rfl,e0.bare,Un.kept hk,⟨_,x.toInCall.ns,λi y v h1 h2 h3=>?_⟩,λy c h=>⟨_,x.cell y c h⟩,e0.hok.fresh (s0 _),λy c h=>?_,λp hp=>absurd (show p ∈ ([]:HD) from hp) (by simp),e0.hok.kept hk,?_⟩
 .exact name_of_addr x.apart (PySem.mem_of_lookup h1) (PySem.mem_of_lookup h2)
 .have hy:scope.names.lookup y=some .cell\/scope.names.lookup y=some .free:=hy;rcases hy with hy|hy
  .exact nI hy
  .exact absurd rfl (S.nofree _ (PySem.mem_of_lookup hy))
 .exact Nat.le_of_lt (x.above y c (PySem.mem_of_lookup h))
 .have hi:i<vs.length:=by
   unfold start at h2
   by_cases hi:i<vs.length
   .exact hi
   .rw[getElem?_append_right (by simpa using hi)]at h2;rw[List.getElem?_replicate]at h2
    split at h2<;>cases h2
  have ha:vs[i]? =some v:=by
   unfold start at h2;rw[getElem?_append_left (by simpa using hi),le]at h2;cases e:vs[i]? with
   |none=>rw[e]at h2;cases h2
   |some a=>rw[e]at h2;cases h2;rfl
  obtain⟨u,hu,rv⟩:=r.get ha;have hp:ps[i]? =some y:=by
   rw[<-S.pre,List.getElem?_take_of_lt nofun];exact h1
  have ndP:ps.Nodup:=by rw[<-S.pre];exact S.nd.sublist (take_sublist _ _)
  refine⟨u,rv,?_⟩;rcases S.par y (dl hp) with k|k
  .exact .inl ⟨k,jY ndP hp hu k⟩
  .obtain⟨c,e⟩:=nI (n:=s.heap.objs.size+1) k;refine .inr ⟨.inl k,c,e,?_⟩;have q:=x.cell y c e;rw[kh ndP hp hu (by show scope.names.lookup y≠_;rw[k];decide)]at q;exact q
 .exact e0.hok.fresh (Nat.le_of_lt (x.above y c (PySem.mem_of_lookup h)))
 .unfold start;show _=N.length;rw[db,cr,List.length_replicate]
  omega
def C8 {f:Addr}{name qual:Str}{params:Arguments}{dV kV doc pm cdv ct oc:Value}{an od:Option Addr}
  {osl:Array (Option Value)}{N:List Str}{sp:Sp}(lk:K.lookup f=some ⟨oc,od,.func (W.fnOf name qual params body scope dV kV doc pm an cdv ct),osl⟩) (hcd:W.codeIn K cdv qual=true) (S:iz N ps scope)
  (len:∀ vs H Q E,sp vs H Q E->vs.length=ps.length)
  (hbody:∀ (A:Around) (outer:List Env) (s:Shared) (H:Hp) (vs:List V) (Q:VK) (E:XK),bC k (A.deeper (envOfC qual scope s.heap.objs.size f cdv))->sp vs H Q E->
   ∃ t,xw (sM CX P w K mg base N qual scope f cdv A outer s H E) body t/\t { nx:=λ_ H'=>Q .non H',rt:=Q } (start N vs) H):
  cF P w K mg base CX (k+1) f (W.fnOf name qual params body scope dV kV doc pm an cdv ct) ps sp:=by
 refine⟨len,λA outer s H args us vs Q E hr e0 hb r hsp=>?_⟩;have hl:=len _ _ _ _ hsp;have KX:K.In s.heap:=e0.mod.kin.keeps λb o e=>(e0.bs b o e).1
 have lim:s.heap.NoLimit:=e0.mod.nolimit.keeps λb o e=>(e0.bs b o e).1
 have hkind:∀ y ∈ ps.zip us,scope.names.lookup y.1=some .local\/(scope.names.lookup y.1=some .cell/\((cellsFrom (s.heap.objs.size+1) scope.names []).lookup y.1).isSome=true):=λ⟨n,v⟩ hy=>by
  rcases S.par n (of_mem_zip hy).1 with q|q
  .exact .inl q
  .exact .inr ⟨q,W.cellsFrom_some _ _ _ (.inl q)⟩
 refine codeAny_call_function hr.depth (KX _ _ lk) rfl S.co S.gen rfl (W.codeRec_of KX hcd) (hb _ _ _ _ ?_);refine wpAny_newFunctionEnv_cells S.kind hkind λenv he s1 x=>?_
 subst he;refine⟨lim.keeps x.toInCall.keep,codeAny_func ?_⟩;obtain⟨t,ht,hq⟩:=hbody A outer s H vs Q E (hr.deeper _) hsp;have I:Inv (sM CX P w K mg base N qual scope f cdv A outer s H E) [] (start N vs) H s1:=rJ S hr.hd e0 hl r x;refine wpAny_mono (ht [] s1 (start N vs) H _ I hq) (λfl s' hs=>?_) λe s' hs=>hs
 have fin:∀ {σ':St}{H':Hp}{v:V}{u:Value},Inv (sM CX P w K mg base N qual scope f cdv A outer s H E) [] σ' H' s'->RelV v u->Q v H'->CE outer P w H s Q u s':=
  λ{σ' H' v u} J rv q=>⟨v,H',J.os,J.bare,J.base,J.hok,rv,q⟩
 cases fl with
 |ret u=>
  obtain⟨v,σ',H',J,rv,q⟩:=hs;exact fin J rv q
 |next=>
  obtain⟨σ',H',J,q⟩:=hs;exact fin (v:=V.non) (u:=Value.none) J rfl q
 |brk=>
  obtain⟨_,_,_,q⟩:=hs;exact False.elim q
 |cont=>
  obtain⟨_,_,_,q⟩:=hs;exact False.elim q
section
variable {X:Cx}{x:Str}{p pos:Pos}{e:Expr}{es:List Expr}{t:TA}{id T:String}{r:List V->Hp->VK->Prop}
abbrev Gp (r:List V->Hp->VK->Prop)(t:TA):TE:=λU H Q=>t U H λvs H1=>r vs H1 Q
def nq (hc:dy X (.builtin id) r)(hg:Gl X x)(hm:X.mg x=none)(hv:bootBuiltins x=some (.builtin id))(ha:PA X (e::es) t)(hn:x≠"__name__":=by decide) (hdb:(x ==("__debug__":Str))=false:=by decide)
  (he:bv (e::es) X.env=(false,eval e X.env)::bv es X.env:=by rfl) (hpl:(backTo pos (bv es X.env)).any (·.1)=false:=by rfl):PE X (.Call (.Name x p) (e::es) [] pos) (Gp r t):=by
 intro Y s U H Q I h;refine ci (jb I hg hm hv ?_ hn hdb);exact PyProof.Rows.callWith_builtin1 (aG (ha pos Y s U H _ I h) λus s1 ⟨vs,H1,I1,r1,q1⟩=>hc Y s1 U H1 vs us Q I1 r1 q1) he hpl
def tm (hc:dy X (.type T) r)(hg:Gl X x)(hm:X.mg x=none)(hv:bootBuiltins x=some (.type T))(ha:PA X (e::es) t)(hn:x≠"__name__":=by decide) (hdb:(x ==("__debug__":Str))=false:=by decide)
  (he:bv (e::es) X.env=(false,eval e X.env)::bv es X.env:=by rfl) (hpl:(backTo pos (bv es X.env)).any (·.1)=false:=by rfl):PE X (.Call (.Name x p) (e::es) [] pos) (Gp r t):=by
 intro Y s U H Q I h;refine ci (jb I hg hm hv ?_ hn hdb);exact PyProof.Rows.callWith_type1 (aG (ha pos Y s U H _ I h) λus s1 ⟨vs,H1,I1,r1,q1⟩=>hc Y s1 U H1 vs us Q I1 r1 q1) he hpl
end
end L2
namespace HT
open PySem PyProof.Rows
section
open PySem.SeqAt
open PySem.AutoSeq1 (wpAny_loadPart')
open PySem.MeetsSeq PySem.MeetsSeq2 PySem.MeetsSeq3
end
section
variable {prog:Program}{w:World}{A:Around}{E:HC}{s:Shared}
abbrev aS (n d:Nat):Option Int->Nat
 |none=>d
 |some v=>if v<0 then(v+(n:Int)).toNat else min v.toNat n
def ug (n d:Nat)(hd:d<=n)(o:Option Int):aS n d o<=n:=by
 cases o with
 |none=>exact hd
 |some v=>
  show(if v<0 then(v+(n:Int)).toNat else min v.toNat n)<=n
  by_cases hv:v<0
  .rw[if_pos hv];omega
  .rw[if_neg hv];exact Nat.min_le_right _ _
def qq (v:Int)(n d:Nat):(if v<0 then max (v+(n:Int)) 0 else min v (n:Int))=((aS n d (some v):Nat):Int):=by
 show(if v<0 then max (v+(n:Int)) 0 else min v (n:Int))=(((if v<0 then(v+(n:Int)).toNat else min v.toNat n):Nat):Int)
 by_cases hv:v<0
 .simp only[if_pos hv];omega
 .simp only[if_neg hv];omega
def nX (lo hi:Option Int)(n:Nat):Builtin.Slice.sliceAdjust lo hi 1 (n:Int)=(((aS n 0 lo:Nat):Int),((aS n n hi:Nat):Int)):=by
 have h1:¬ ((1:Int)<0):=by omega
 unfold Builtin.Slice.sliceAdjust;simp only[h1,if_false];refine Prod.ext ?_ ?_
 .cases lo with
  |none=>rfl
  |some v=>exact qq v n 0
 .cases hi with
  |none=>rfl
  |some v=>exact qq v n n
def nR (i j:Nat):Builtin.Slice.slicePlaces (i:Int) (j:Int) 1=j-i:=by
 unfold Builtin.Slice.slicePlaces;have h1:(1:Int)>0:=by omega
 simp only[h1,if_true,Int.ediv_one]
 split<;>omega
def iV {v:Value}{o:Option Int}{Q:Option Int->Shared->Prop}(p:IsPart v o)(h:Q o s):wpAny (model prog w) A (Builtin.Slice.slicePartIndex v) Q E s:=by
 cases p with
 |none=>exact slicePart_none h
 |int i t=>exact slicePart_int h
def gp {sl:Addr}{vl vu:Value}{lo hi:Option Int}{n:Nat}{Q:Int×Int×Nat->Shared->Prop}(hs:s.heap.IsSliceOf sl vl vu .none)(pl:IsPart vl lo)(pu:IsPart vu hi)
  (h:Q (((aS n 0 lo:Nat):Int),1,aS n n hi-aS n 0 lo) s):wpAny (model prog w) A (Builtin.Slice.sliceApplied (.ref sl) (pure (n:Int))) Q E s:=by
 obtain⟨os,hos,hcs,hds⟩:=id hs;unfold Builtin.Slice.sliceApplied Builtin.Slice.sliceFields;refine ap (ap (bi hos hds (x:=vl) rfl (ap (bi hos hds (x:=vu) rfl (ap (bi hos hds (x:=.none) rfl (bd ?_)))))));refine ap (slicePart_none ?_);show wpAny _ _ (if((1:Int) ==0)=true then _ else _) _ _ s;rw[if_neg (by decide)];refine ap (iV pl (ap (iV pu (ap (bd ?_)))));show wpAny _ _ (match Builtin.Slice.sliceAdjust lo hi 1 (n:Int) with|(lo,hi)=>pure (lo,(1:Int),Builtin.Slice.slicePlaces lo hi 1)) _ _ s;rw[nX lo hi n];show wpAny _ _ (pure (((aS n 0 lo:Nat):Int),(1:Int),Builtin.Slice.slicePlaces ((aS n 0 lo:Nat):Int) ((aS n n hi:Nat):Int) 1)) _ _ s;rw[nR];exact bd h
def tS (xs:Array Value)(i k:Nat):((List.range k).filterMap λ(m:Nat)=>xs[((i:Int)+(m:Int)*1).toNat]?).toArray=((xs.toList.drop i).take k).toArray:=by
 have e:(λ(m:Nat)=>xs[((i:Int)+(m:Int)*1).toNat]?)=λm=>xs[i+m]? :=by
  funext m
  have:((i:Int)+(m:Int)*1).toNat=i+m:=by omega
  rw[this]
 rw[e];have:=pick_run xs i k;rw[List.filterMap_map]at this;have e2:((λx=>xs[x]?)∘λx=>i+x)=λm=>xs[i+m]? :=rfl
 rw[e2]at this;rw[this]
def fw {t sl:Addr}{items:Array Value}{vl vu:Value}{lo hi:Option Int}{Q:HC}(ht:IsTup s.heap t items)(hs:s.heap.IsSliceOf sl vl vu .none)(pl:IsPart vl lo)(pu:IsPart vu hi)
  (hw:¬ (aS items.size 0 lo=0/\aS items.size items.size hi=items.size))
  (h:Q (.ref s.heap.objs.size) { s with heap:=s.heap.push { cls:=.type "tuple",data:=.seq ((items.toList.drop (aS items.size 0 lo)).take (aS items.size items.size hi-aS items.size 0 lo)).toArray } })
  (hsz:items.size<=ce):wpAny (model prog w) A (getItem (.ref t) (.ref sl)) Q E s:=by
 have htake:sizeOk (.seq ((items.toList.drop (aS items.size 0 lo)).take (aS items.size items.size hi-aS items.size 0 lo)).toArray):=by
  show((items.toList.drop (aS items.size 0 lo)).take (aS items.size items.size hi-aS items.size 0 lo)).toArray.size<=ce;rw[io,dL,lf,Array.length_toList]
  omega
 have hj:aS items.size items.size hi<=items.size:=ug _ _ (s0 _) hi;obtain⟨os,hos,hcs,hds⟩:=id hs;have hTs:s.TypeIs (.ref sl) "slice":=⟨os,hos,hcs⟩;unfold getItem
 try with_reducible refine bm ?_
 first|refine ap (bd ?_)|skip
 refine ap (wpAny_sequenceKey ht.typeIs (by decide) ?_);refine ap (wpAny_callSpecial?_slot (name:=Str.ofString "__getitem__") ht.typeIs PyProof.Rows.slot_tuple_getitem
  (wpAny_call_entry PyProof.Rows.slot_tuple_getitem ht.typeIs entry_tuple_getitem ?_ (args_tuple_getitem _ _)))
 show wpAny _ _ (Builtin.Tuple.tupleItemsOf (.ref t) >>= _) _ _ s;refine ap (tupleItemsOf_ ht ?_);refine ap (wpAny_typeOf hTs ?_);rw[if_pos (by decide)];refine ap (gp hs pl pu ?_);have hno:¬ ((((aS items.size 0 lo:Nat):Int) ==0&&(1:Int) ==1&&(aS items.size items.size hi-aS items.size 0 lo) ==items.size)=true):=by
  intro q;rw[nb,nb]at q;have q1:((aS items.size 0 lo:Nat):Int)=0:=eq_of_beq q.1.1;have q2:aS items.size items.size hi-aS items.size 0 lo=items.size:=eq_of_beq q.2;exact hw ⟨by omega,by omega⟩
 show wpAny _ _ (if(((aS items.size 0 lo:Nat):Int) ==0&&(1:Int) ==1&&(aS items.size items.size hi-aS items.size 0 lo) ==items.size)=true then _ else _) _ _ s;rw[if_neg hno,tS]
 first
  |exact ap (m:=Builtin.Tuple.tupleExact _) (wpAny_newObj_type (bd ⟨_,rfl,bd h⟩) htake)
  |exact ap (m:=Builtin.Tuple.tupleExact _) (wpAny_newObj_type (ap (bd (bd ⟨_,rfl,bd h⟩))) htake)
  |exact ap (ap (m:=Builtin.Tuple.tupleExact _) (wpAny_newObj_type (bd (bd ⟨_,rfl,bd h⟩)) htake))
  |exact ap (ap (m:=Builtin.Tuple.tupleExact _) (wpAny_newObj_type (bd ⟨_,rfl,bd h⟩) htake))
end
end HT
namespace L2
open PySem PySem.Spec PyProof.Rows
@[reducible]def TO:=St->Hp->(Option Int->Hp->Prop)->Prop
abbrev PO (X:Cx)(e:Option Expr)(t:TO):Prop:=
 ∀ (Y:HD) (s:Shared) (U:St) (H:Hp) (Q:Option Int->Hp->Prop),Inv X Y U H s->t U H Q->
  wpAny (model X.prog X.w) X.A (evalPart e X.env) (λu s'=>∃ o H',Inv X Y U H' s'/\IsPart u o/\Q o H') X.xe s
abbrev y6:TO:=λ_ H Q=>Q none H
abbrev Dw (t:TE):TO:=λU H Q=>t U H λx H1=>∃ i,x=.int i/\Q (some i) H1
section
variable {X:Cx}{e:Expr}{te:TE}{lo hi:Option Expr}{tl th:TO}{pos p2:Pos}
def yJ:PO X none y6:=by
 intro Y s U H Q I h;rw[evalPart_none];exact bd ⟨none,H,I,.none,h⟩
def wY (h:PE X e te):PO X (some e) (Dw te):=by
 intro Y s U H Q I hw;rw[evalPart_some];refine aG (h Y s U H _ I hw) λu s1 ⟨x,H1,I1,r1,q1⟩=>?_
 obtain⟨i,rfl,q⟩:=q1;obtain⟨t,rfl⟩:=r1;exact⟨some i,H1,I1,.int i t,q⟩
abbrev C0 (X:Cx)(r:V->Option Int->Option Int->Hp->VK->Prop):Prop:=
 ∀ (Y:HD) (s:Shared) (U:St) (H:Hp) (x:V) (v vl vu:Value) (lo hi:Option Int) (sl:Addr) (Q:VK),Inv X Y U H s->RelV x v->s.heap.IsSliceOf sl vl vu .none->IsPart vl lo->IsPart vu hi->r x lo hi H Q->
  ∃ T id,typeLookup (.type T) "__getitem__"=pure (some (.builtin id))/\s.TypeIs v T/\wpAny (model X.prog X.w) X.A (getItem v (.ref sl)) (EP X Y U Q) X.xe s
abbrev GN (r:V->Option Int->Option Int->Hp->VK->Prop)(te:TE)(tl th:TO):TE:=λU H Q=>te U H λx H1=>tl U H1 λl H2=>th U H2 λu H3=>r x l u H3 Q
def tN {r:V->Option Int->Option Int->Hp->VK->Prop}(hr:C0 X r)(he:PE X e te)(hl:PO X lo tl)(hu:PO X hi th):PE X (.Subscript e (.Slice lo hi none p2) pos) (GN r te tl th):=by
 intro Y s U H Q I h;refine Subscript_ (aG (he Y s U H _ I h) λv s1 ⟨x,H1,I1,r1,q1⟩=>?_);refine wpAny_Slice (aG (hl Y s1 U H1 _ I1 q1) λvl s2 ⟨l,H2,I2,pl,q2⟩=>aG (hu Y s2 U H2 _ I2 q2) λvu s3 ⟨u,H3,I3,pu,q3⟩=>?_);rw[evalPart_none];refine bd ?_;have I4:Inv X Y U H3 { s3 with heap:=s3.heap.push { cls:=.type "slice",data:=.fields #[vl,vu,.none] } }:=I3.kept (t':=s3.toks) λb ob q=>u8 _ q
 obtain⟨T,id,hT,ht,hg⟩:=hr Y { s3 with heap:=s3.heap.push { cls:=.type "slice",data:=.fields #[vl,vu,.none] } } U H3 x v vl vu l u s3.heap.objs.size Q I4 r1 (Heap.IsSliceOf.new ..) pl pu q3;show wpAny (model X.prog X.w) X.A (subscriptTail e (.Slice lo hi none p2) v (.ref s3.heap.objs.size)) (EP X Y U Q) X.xe { s3 with heap:=s3.heap.push { cls:=.type "slice",data:=.fields #[vl,vu,.none] } };exact tail_any (ops:=[.ref s3.heap.objs.size,v]) ht hT hg (by with_unfolding_all rfl)
abbrev ij (xs:List V)(lo hi:Option Int):List V:=(xs.drop (HT.aS xs.length 0 lo)).take (HT.aS xs.length xs.length hi-HT.aS xs.length 0 lo)
def gO (xs:List V)(lo hi:Option Int):(ij xs lo hi).length<=xs.length:=by
 unfold ij;rw[dL,lf]
 omega
abbrev Ej (K:W.Frag):V->Option Int->Option Int->Hp->VK->Prop:=λx lo hi H Q=>∃ a xs,x=.ref a/\cM K H a xs/\
 ¬ (HT.aS xs.length 0 lo=0/\HT.aS xs.length xs.length hi=xs.length)/\∀ p,H p=none->Q (.ref p) (upd H p (.tup (ij xs lo hi)))
def B4:C0 X (Ej X.K):=by
 intro Y s U H x v vl vu lo hi sl Q I rx hs pl pu h;obtain⟨a,xs,rfl,hx,hw,q⟩:=h;cases rx;obtain⟨its,r,ht,hz⟩:=I.tuple hx;have hlen:its.toArray.size=xs.length:=by rw[io];exact r.length.symm
 refine⟨"tuple",_,PyProof.Rows.slot_tuple_getitem.lookup,ht.typeIs,?_⟩;refine HT.fw ht hs pl pu (by rw[hlen];exact hw) ?_ (by rw[hlen];exact hz);rw[hlen];refine⟨.ref s.heap.objs.size,_,I.laid (t':=s.toks) (o:=.tup (ij xs lo hi)) (λb ob q=>u8 _ q) (s0 _) ?_,rfl,q _ (I.hok.fresh (s0 _))⟩;exact⟨Nat.le_trans (gO xs lo hi) hz,_,(r.drop (HT.aS xs.length 0 lo)).take (HT.aS xs.length xs.length hi-HT.aS xs.length 0 lo),IsTup.new _ _⟩
end
abbrev uF (n:Nat)(i:Int):Option Nat:=if 0<=i then(if i<n then some i.toNat else none) else if -(n:Int)<=i then some (i+n).toNat else none
variable {α:Type}
abbrev iB (xs:List α)(i:Int):Option α:=(uF xs.length i).bind λj=>xs[j]?
variable {n:Nat}
def qw {i:Int}{j:Nat}(h:uF n i=some j):seqIndex? i n=some j/\j<n/\ -(n:Int)<=i/\i<n:=by
 unfold uF at h
 by_cases h0:0<=i
 .rw[if_pos h0]at h
  by_cases h1:i<n
  .rw[if_pos h1]at h;have e:i.toNat=j:=Option.some.inj h;exact⟨by rw[seqIndex_of h0 h1,e],by omega,by omega,h1⟩
  .rw[if_neg h1]at h;cases h
 .rw[if_neg h0]at h
  by_cases h1: -(n:Int)<=i
  .rw[if_pos h1]at h;have e:(i+n).toNat=j:=Option.some.inj h;exact⟨by rw[seqIndex_neg nofun h1,e],by omega,h1,by omega⟩
  .rw[if_neg h1]at h;cases h
def lW {xs:List α}{i:Int}{v:α}(h:iB xs i=some v):∃ j,seqIndex? i xs.length=some j/\xs[j]? =some v/\j<xs.length/\ -(xs.length:Int)<=i/\i<xs.length:=by
 unfold iB at h;cases e:uF xs.length i with
 |none=>rw[e]at h;cases h
 |some j=>
  rw[e]at h;obtain⟨h1,h2,h3,h4⟩:=qw e;exact⟨j,h1,h,h2,h3,h4⟩
def qB {xs:List α}{j:Nat}{v:α}(h:xs[j]? =some v):iB xs (j:Int)=some v:=by
 have hj:j<xs.length:=(tz.mp h).1;have e:uF xs.length (j:Int)=some j:=by
  unfold uF;rw[if_pos nofun,if_pos nofun];simp
 unfold iB;rw[e];exact h
abbrev qi (b:Expr):Prop:=∀ o i,subscripted b false o i=operate [o,i] (getItem o i)
abbrev CW (X:Cx)(r:R2):Prop:=
 ∀ (value slice:Expr) (Y:HD) (s:Shared) (U:St) (H:Hp) (x y:V) (v u:Value) (Q:VK),Inv X Y U H s->RelV x v->RelV y u->r x y H Q->
  subscripted slice false v u=operate [v,u] (getItem v u)->wpAny (model X.prog X.w) X.A (subscriptTail value slice v u) (EP X Y U Q) X.xe s
abbrev zP (X:Cx)(id:String)(r:V->List V->Hp->VK->Prop):Prop:=
 ∀ (Y:HD) (s:Shared) (U:St) (H:Hp) (x:V) (xs:List V) (v:Value) (us:List Value) (Q:VK),Inv X Y U H s->RelV x v->Vals xs us->r x xs H Q->
  wpAny (model X.prog X.w) X.A (call (.builtin id) (v::us)) (EP X Y U Q) X.xe s
variable {Y:HD}{U:St}{H:Hp}{s:Shared}{y:V}{u:Value}
section
variable {X:Cx}{a b:Expr}{ta tb:TE}{pos:Pos}
def DL {r:R2}(hr:CW X r)(ha:PE X a ta)(hb:PE X b tb)(hs:qi b):PE X (.Subscript a b pos) (E6 r ta tb):=by
 intro Y s U H Q I h;exact Subscript_ (Bm ha hb I h λv u s2 x y H2 I2 rx ry q=>hr a b Y s2 U H2 x y v u Q I2 rx ry q (hs _ _))
abbrev F9 (K:W.Frag):R2:=λx y H Q=>∃ p xs i v,x=.ref p/\y=.int i/\aV K H p xs/\iB xs i=some v/\Q v H
abbrev FK (K:W.Frag):R2:=λx y H Q=>∃ p xs i v,x=.ref p/\y=.int i/\cM K H p xs/\iB xs i=some v/\Q v H
abbrev Fs:R2:=λx y H Q=>∃ z i c,x=.str z/\y=.int i/\z.length<=ce/\iB z.cps.toList i=some c/\Q (.str ⟨#[c]⟩) H
def wU:CW X (F9 X.K):=by
 intro value slice Y s U H x y v u Q I rx ry h hs;obtain⟨p,xs,i,z,rfl,rfl,hq,he,q⟩:=h;cases rx;obtain⟨t,rfl⟩:=ry;obtain⟨its,r,pl,hz⟩:=I.list hq;obtain⟨j,h1,h2,h3,h4,h5⟩:=lW he;obtain⟨w,ew,rw'⟩:=r.get h2;have hl:=r.length;have hn:=dv;have fin:EP X Y U Q w s:=⟨z,H,I,rw',q⟩
 by_cases h0:0<=i
 .have hj:i.toNat=j:=by
   rw[seqIndex_of h0 h5]at h1;exact Option.some.inj h1
  exact item_listR pl.isList h0 nofun (by rw[hj];simpa using ew) fin hs
 .have hj:(i+(its.toArray.size:Int)).toNat=j:=by
   rw[seqIndex_neg nofun h4]at h1;rw[io,<-hl];exact Option.some.inj h1
  exact subscriptTail_builtinR (x:=w) pl.isList.typeIs slot_list_getitem.lookup
   (wpAny_getItem_list_neg (Q:=λr s'=>r=w/\EP X Y U Q r s') pl.isList nofun (by rw[io]<;>omega) nofun (by rw[hj];simpa using ew) ⟨rfl,fin⟩) hs
def BI:CW X (FK X.K):=by
 intro value slice Y s U H x y v u Q I rx ry h hs;obtain⟨p,xs,i,z,rfl,rfl,hq,he,q⟩:=h;cases rx;obtain⟨t,rfl⟩:=ry;obtain⟨its,r,pl,hz⟩:=I.tuple hq;obtain⟨j,h1,h2,h3,h4,h5⟩:=lW he;obtain⟨w,ew,rw'⟩:=r.get h2;have hl:=r.length;have hn:=dv;have fin:EP X Y U Q w s:=⟨z,H,I,rw',q⟩;exact subscriptTail_builtinR (x:=w) pl.typeIs slot_tuple_getitem.lookup
  (getItem_tuple (j:=j) (Q:=λr s'=>r=w/\EP X Y U Q r s') pl nofun nofun (by rw[io,<-hl];exact h1) (by simpa using ew) ⟨rfl,fin⟩) hs
def Cu:CW X Fs:=by
 intro value slice Y s U H x y v u Q I rx ry h hs;obtain⟨z,i,c,rfl,rfl,hz,he,q⟩:=h;obtain⟨t,rfl⟩:=rx;obtain⟨t',rfl⟩:=ry;obtain⟨j,h1,h2,h3,h4,h5⟩:=lW he;have hl:z.cps.toList.length=z.length:=by simp[Str.length]
 rw[hl]at h1 h4 h5;have hn:=dv;exact tail_any (typeIs_str s z t) slot_str_getitem.lookup (getItem_str (c:=c) (by
  have e1:decide (i< -(2 ^ 63:Int))=false:=decide_eq_false nofun;have e2:decide (i>=2 ^ 63)=false:=decide_eq_false nofun;rw[e1,e2,Bool.or_false]) (by rw[h1];simpa using h2) ⟨.str ⟨#[c]⟩,H,I.tok _,⟨_,rfl⟩,q⟩) hs
def ot (its:List Value)(n j:Nat)(u:Value):Obj.mapSeq (·.setIfInBounds j u) { cls:=.type "list",data:=.seq its.toArray n }={ cls:=.type "list",data:=.seq (its.set j u).toArray n }:=by
 simp[Obj.mapSeq]
def Inv.lst {Y:HD}{U:St}{H:Hp}{s:Shared}{p:Addr}{xs:List V}(I:Inv X Y U H s)(h:H p=some (.lst xs)):
  ∃ (its:List Value) (n:Nat),Vals xs its/\s.heap.get? p=some { cls:=.type "list",data:=.seq its.toArray n }/\xs.length<=ce:=by
 obtain⟨z,its,n,r,e⟩:=I.hok p _ h;exact⟨its,n,r,e,z⟩
def Inv.BW {p:Addr}{xs ys:List V}{its its':List Value}{n':Nat}{f:Obj->Obj}(I:Inv X Y U H s)(h:H p=some (.lst xs))
  (ho:s.heap.get? p=some { cls:=.type "list",data:=.seq its.toArray n }) (hf:f { cls:=.type "list",data:=.seq its.toArray n }={ cls:=.type "list",data:=.seq its'.toArray n' }) (r:Vals ys its') (hz:ys.length<=ce) (t:Nat):
  Inv X Y U (upd H p (.lst ys)) { s with heap:=s.heap.update p f,toks:=t }:=by
 have e:(s.heap.update p f).get? p=some { cls:=.type "list",data:=.seq its'.toArray n' }:=by
  rw[Heap.get?_update_self f ho (by rw[hf]<;>rfl),hf]
 refine I.write (x:=p) (e:=p) (by rw[h];trivial) (.inl rfl) (λb u hb q=>(Heap.get?_update_other _ _ (Ne.symm hb)).trans q) ⟨_,e⟩ ?_;exact⟨hz,its',n',r,e⟩
abbrev D5:V->V->V->Hp->(Hp->Prop)->Prop:=λo i v H Q=>∃ p xs k j,o=.ref p/\i=.int k/\H p=some (.lst xs)/\uF xs.length k=some j/\Q (upd H p (.lst (xs.set j v)))
def set_list:xy X D5:=by
 intro Y s U H o i v ov iv u Q I ro ri rv h;obtain⟨p,xs,k,j,rfl,rfl,hp,hj,q⟩:=h;cases ro;obtain⟨t,rfl⟩:=ri;obtain⟨its,n,r,ho,hz⟩:=I.lst hp;obtain⟨h1,h2,h3,h4⟩:=qw hj;have hl:=r.length;have hn:=dv;have I':Inv X Y U (upd H p (.lst (xs.set j v))) { s with heap:=s.heap.update p (Obj.mapSeq (·.setIfInBounds j u)) }:=
  I.BW hp ho (ot its n j u) (r.set rv j) (by rw[length_set];exact hz) s.toks
 by_cases h0:0<=k
 .have hk:k.toNat=j:=by
   rw[seqIndex_of h0 h4]at h1;exact Option.some.inj h1
  exact W.ki_setAt ho h0 nofun (by rw[io,<-hl];exact h4) (by rw[hk];exact⟨_,I',q⟩)
 .have hk:(k+(its.toArray.size:Int)).toNat=j:=by
   rw[seqIndex_neg nofun h3]at h1;rw[io,<-hl];exact Option.some.inj h1
  exact W.ki_setBack ho nofun (by rw[io,<-hl];exact h3) nofun (by rw[hk];exact⟨_,I',q⟩)
def kI (lo hi:Option Int)(n:Nat):(sliceBounds lo hi none n).1=((HT.aS n 0 lo:Nat):Int)/\(sliceBounds lo hi none n).2.1=((HT.aS n n hi:Nat):Int)/\(sliceBounds lo hi none n).2.2=1:=by
 refine⟨?_,?_,rfl⟩
 .cases lo with
  |none=>simp[sliceBounds,HT.aS]
  |some i=>
   simp only[sliceBounds,HT.aS,Option.getD_none,show(1:Int)>0 by decide,if_true]
   by_cases h:i<0
   .simp only[h,if_true]<;>omega
   .simp only[h,if_false]<;>omega
 .cases hi with
  |none=>simp[sliceBounds,HT.aS]
  |some i=>
   simp only[sliceBounds,HT.aS,Option.getD_none,show(1:Int)>0 by decide,if_true]
   by_cases h:i<0
   .simp only[h,if_true]<;>omega
   .simp only[h,if_false]<;>omega
def jM (its:List Value)(lo hi:Option Int):slicePick its.toArray lo hi none=((its.drop (HT.aS its.length 0 lo)).take (HT.aS its.length its.length hi-HT.aS its.length 0 lo)).toArray:=by
 obtain⟨h1,h2,h3⟩:=kI lo hi its.toArray.size;unfold slicePick;rw[h1,h2,h3];simp only[sliceRange_one,pick_run,io]<;>rfl
abbrev Ft (K:W.Frag):V->Option Int->Option Int->Hp->VK->Prop:=λx lo hi H Q=>∃ a xs,x=.ref a/\aV K H a xs/\∀ p,H p=none->Q (.ref p) (upd H p (.lst (ij xs lo hi)))
def xU:C0 X (Ft X.K):=by
 intro Y s U H x v vl vu lo hi sl Q I rx hs pl pu h;obtain⟨a,xs,rfl,hx,q⟩:=h;cases rx;obtain⟨its,r,ht,hz⟩:=I.list hx;have hlen:=r.length;refine⟨"list",_,slot_list_getitem.lookup,ht.isList.typeIs,?_⟩;refine wpAny_getItem_list_slice ht.isList hs pl pu .none (by simp) ?_ (by rw[io]<;>omega);rw[jM,<-hlen];refine⟨.ref s.heap.objs.size,_,I.laid (t':=s.toks) (o:=.lst (ij xs lo hi)) (λb ob q=>u8 _ q) (s0 _) ?_,rfl,q _ (I.hok.fresh (s0 _))⟩;exact⟨Nat.le_trans (gO xs lo hi) hz,_,0,(r.drop (HT.aS xs.length 0 lo)).take (HT.aS xs.length xs.length hi-HT.aS xs.length 0 lo),ut _ rfl⟩
abbrev aM:V->Bool
 | .non=>true
 | .bl _=>true
 | .int _=>true
 | .str _=>true
 |_=>false
abbrev jy:V->V->Bool
 | .non,.non=>true
 | .bl a,.bl b=>a ==b
 | .bl a,.int b=>(if a then 1 else 0) ==b
 | .int a,.bl b=>a ==(if b then 1 else 0)
 | .int a,.int b=>a ==b
 | .str a,.str b=>a ==b
 |_,_=>false
def tX {A:Around}{x:V}{v:Value}(ry:RelV y u)(rx:RelV x v)(fy:aM y=true)(fx:aM x=true):SeqAt.EqAt A s u v (jy y x):=by
 cases y with
 |non=>
  cases ry;cases x with
  |non=>cases rx;exact SeqAt.EqAt.same _
  |bl b=>cases rx;exact SeqAt.EqAt.none_bool b
  |int b=>obtain⟨t,rfl⟩:=rx;exact SeqAt.EqAt.none_int b t
  |str b=>obtain⟨t,rfl⟩:=rx;exact SeqAt.EqAt.none_str b t
  |_=>exact absurd (show false=true from fx) Bool.false_ne_true
 |bl a=>
  cases ry;cases x with
  |non=>cases rx;exact SeqAt.EqAt.bool_none a
  |bl b=>cases rx;exact SeqAt.EqAt.bool_bool a b
  |int b=>obtain⟨t,rfl⟩:=rx;exact SeqAt.EqAt.bool_int a b t
  |str b=>obtain⟨t,rfl⟩:=rx;exact SeqAt.EqAt.bool_str a b t
  |_=>exact absurd (show false=true from fx) Bool.false_ne_true
 |int a=>
  obtain⟨t',rfl⟩:=ry;cases x with
  |non=>cases rx;exact SeqAt.EqAt.int_none a t'
  |bl b=>cases rx;exact SeqAt.EqAt.int_bool a t' b
  |int b=>obtain⟨t,rfl⟩:=rx;exact SeqAt.EqAt.int_int a t' b t
  |str b=>obtain⟨t,rfl⟩:=rx;exact SeqAt.EqAt.int_str a t' b t
  |_=>exact absurd (show false=true from fx) Bool.false_ne_true
 |str a=>
  obtain⟨t',rfl⟩:=ry;cases x with
  |non=>cases rx;exact SeqAt.EqAt.str_none a t'
  |bl b=>cases rx;exact SeqAt.EqAt.str_bool a t' b
  |int b=>obtain⟨t,rfl⟩:=rx;exact SeqAt.EqAt.str_int a t' b t
  |str b=>obtain⟨t,rfl⟩:=rx;exact SeqAt.EqAt.str_str a t' b t
  |_=>exact absurd (show false=true from fx) Bool.false_ne_true
 |_=>exact absurd (show false=true from fy) Bool.false_ne_true
abbrev yX (x:V)(u:Value):Bool:=match u with
 | .none=>jy .non x
 | .bool b=>jy (.bl b) x
 | .int i _=>jy (.int i) x
 | .str z _=>jy (.str z) x
 |_=>false
def vm {x:V}(r:RelV y u)(f:aM y=true):yX x u=jy y x:=by
 cases y with
 |non=>cases r;rfl
 |bl b=>cases r;rfl
 |int i=>obtain⟨t,rfl⟩:=r;rfl
 |str z=>obtain⟨t,rfl⟩:=r;rfl
 |_=>exact absurd (show false=true from f) Bool.false_ne_true
def kS {x:V}:∀ {xs:List V}{us:List Value},Vals xs us->xs.all aM=true->us.any (yX x)=xs.any λy=>jy y x
 |_,_,.nil,_=>rfl
 |y::xs,u::us,.cons r t,f=>by
  rw[all_cons,nb]at f;rw[any_cons,any_cons,vm r f.1,kS t f.2]
def iN {A:Around}{s:Shared}{x:V}{v:Value}(rx:RelV x v)(fx:aM x=true):∀ {xs:List V}{us:List Value},Vals xs us->xs.all aM=true->∀ u ∈ us,SeqAt.EqAt A s u v (yX x u)
 |_,_,.nil,_=>λu hu=>by cases hu
 |y::xs,u::us,.cons r t,f=>λu' hu=>by
  rw[all_cons,nb]at f;rcases mo.mp hu with rfl|hu
  .rw[vm r f.1];exact tX r rx f.1 fx
  .exact iN rx fx t f.2 u' hu
abbrev Ai (x:V)(xs:List V):Bool:=xs.any λy=>jy y x
abbrev GR (K:W.Frag)(neg:Bool):R2:=λx y H Q=>∃ p xs,y=.ref p/\(aV K H p xs\/cM K H p xs)/\aM x=true/\xs.all aM=true/\Q (.bl (if neg then !Ai x xs else Ai x xs)) H
def tf:cL X (compareOp .In) (GR X.K false):=by
 intro Y s U H x y v u Q I rx ry h;obtain⟨p,xs,rfl,hq,fx,fs,q⟩:=h;cases ry;rcases hq with hq|hq
 .obtain⟨its,r,pl,hz⟩:=I.list hq;refine SeqAt.in_listAt (yX x) pl.isList (λw hw=>iN rx fx r fs w (by simpa using hw)) ⟨.bl _,H,I,rfl,?_⟩;rw[show its.toArray.any (yX x)=its.any (yX x) by simp,kS r fs];exact q
 .obtain⟨its,r,pl,hz⟩:=I.tuple hq;refine SeqAt.in_tupleAt (yX x) pl (λw hw=>iN rx fx r fs w (by simpa using hw)) ⟨.bl _,H,I,rfl,?_⟩;rw[show its.toArray.any (yX x)=its.any (yX x) by simp,kS r fs];exact q
def lE:dy X (.type "list") (λxs H Q=>∃ p ys,xs=[.ref p]/\(aV X.K H p ys\/cM X.K H p ys)/\∀ l,H l=none->Q (.ref l) (upd H l (.lst ys))):=by
 intro Y s U H xs us Q I r h;obtain⟨p,ys,rfl,hq,q⟩:=h;obtain⟨u,rfl,rx⟩:=vals1 r;cases rx;have fin:∀ (its:List Value),Vals ys its->ys.length<=ce->∀ (h':Heap) (c':Nat),(∀ b o',s.heap.get? b=some o'->h'.get? b=some o')->
   h'.get? s.heap.objs.size=some { cls:=.type "list",dict:=none,data:=.seq its.toArray c',slots:=#[] }->EP X Y U Q (.ref s.heap.objs.size) { s with heap:=h' }:=λits r' hz h' c' kp e=>
  ⟨.ref s.heap.objs.size,_,I.laid (t':=s.toks) kp (s0 _) (show aJ X.prog X.w _ h' _ (.lst ys) from⟨hz,its,c',r',e⟩),rfl,q _ (I.hok.fresh (s0 _))⟩
 rcases hq with hq|hq
 .obtain⟨its,r',pl,hz⟩:=I.list hq;have hlen:=r'.length;obtain⟨o,ho,hc,n,hd⟩:=pl.isList;exact call_list_seq p (.inl rfl) ho hc hd (λh' c' kp e=>fin its r' hz h' c' kp e) (by simp only[io]<;>omega)
 .obtain⟨its,r',pl,hz⟩:=I.tuple hq;have hlen:=r'.length;obtain⟨o,ho,hc,n,hd⟩:=pl;exact call_list_seq p (.inr rfl) ho hc hd (λh' c' kp e=>fin its r' hz h' c' kp e) (by simp only[io]<;>omega)
abbrev FY (K:W.Frag)(T:String)(x:V)(H:Hp):Prop:=match x with
 | .str _=>T="str"
 | .int _=>T="int"
 | .ref p=>(T="list"/\∃ xs,aV K H p xs)\/(T="tuple"/\∃ o,K.lookup p=some o/\o.cls=.type "tuple"/\o.dict=none)\/
   (T="dict"/\((∃ kvs,H p=some (.dK kvs))\/∃ kvs,H p=some (.dT kvs)))\/(T="set"/\∃ S n,H p=some (.set S n))
 |_=>False
def vp {T:String}{x:V}{v:Value}(I:Inv X Y U H s)(r:RelV x v)(ty:FY X.K T x H):
  s.TypeIs v T/\∀ a,v=.ref a->∃ ob,s.heap.get? a=some ob/\ob.dict=none:=by
 cases x with
 |str z=>
  obtain⟨t,rfl⟩:=r;cases(show T="str" from ty);exact⟨typeIs_str s z t,λ_ e=>nomatch e⟩
 |int i=>
  obtain⟨t,rfl⟩:=r;cases(show T="int" from ty);exact⟨typeIs_int s i t,λ_ e=>nomatch e⟩
 |ref p=>
  cases r;rcases ty with⟨rfl,xs,hq⟩|⟨rfl,o,hk,hc,hd⟩|⟨rfl,hk⟩|⟨rfl,S,n,hk⟩
  .obtain⟨its,_,pl,_⟩:=I.list hq;refine⟨pl.isList.typeIs,λa e=>?_⟩;cases e;obtain⟨o,n,e,c,hd,_⟩:=pl;exact⟨o,e,hd⟩
  .refine⟨⟨o,I.bF p o hk,hc⟩,λa e=>?_⟩;cases e;exact⟨o,I.bF _ o hk,hd⟩
  .have z:∃ o,s.heap.get? p=some o/\o.ExactDict:=by
    rcases hk with⟨kvs,hk⟩|⟨kvs,hk⟩
    .obtain⟨_,_,_,_,o,_,_,e,ex,_⟩:=I.hok p _ hk;exact⟨o,e,ex⟩
    .obtain⟨_,_,_,_,o,_,_,e,ex,_⟩:=I.hok p _ hk;exact⟨o,e,ex⟩
   obtain⟨o,e,ex⟩:=z;refine⟨⟨o,e,ex.1⟩,λa e2=>?_⟩;cases e2;exact⟨o,e,ex.2.1⟩
  .obtain⟨o,_,_,_,e,ex,_⟩:=I.hok p _ hk;refine⟨⟨o,e,ex.1⟩,λa e2=>?_⟩;cases e2;exact⟨o,e,ex.2.1⟩
 |_=>exact False.elim ty
abbrev FX (K:W.Frag)(T:String)(r:V->List V->Hp->VK->Prop)(to:TE):TE:=λU H Q=>to U H λx H1=>FY K T x H1/\r x [] H1 Q
abbrev Hm (K:W.Frag)(T:String)(r:V->List V->Hp->VK->Prop)(to:TE)(t:TA):TE:=λU H Q=>to U H λx H1=>FY K T x H1/\t U H1 λxs H2=>r x xs H2 Q
variable {o e:Expr}{es:List Expr}{to:TE}{t:TA}{name:Str}{apos cpos:Pos}{T id:String}{r:V->List V->Hp->VK->Prop}
def BZ (pa:PlainAttrs T)(slot:Slot T name id)(hty:typeOf (.builtin id)=pure (.type "method_descriptor")) (hm:zP X id r) (ho:PE X o to)
  (hbase:attributeBase o name X.env (eval o X.env)=eval o X.env:=by rfl) (hline:(apos.endLine ==cpos.line)=true:=by rfl):PE X (.Call (.Attribute o name apos) [] [] cpos) (FX X.K T r to):=by
 intro Y s U H Q I h;refine wpAny_Call_method0_late hbase hline (aG (ho Y s U H _ I h) λv s1 ⟨x,H1,I1,r1,ty,q1⟩=>?_);obtain⟨h1,h2⟩:=vp I1 r1 ty;exact⟨T,id,pa,slot,hty,h1,h2,Calls.callWith_builtin rfl (PySem.evalArgs_none (hm Y s1 U H1 x [] v [] Q I1 r1 .nil q1))⟩
def zT (pa:PlainAttrs T)(slot:Slot T name id)(hty:typeOf (.builtin id)=pure (.type "method_descriptor")) (hm:zP X id r) (ho:PE X o to) (ha:PA X (e::es) t)
  (hbase:attributeBase o name X.env (eval o X.env)=eval o X.env:=by rfl)
  (hfew:((backTo cpos (bv (e::es) X.env)).all (λx=>!x.1)&&(backToKw cpos (keywordEach [] X.env)).all (λx=>x.1.isSome)
   &&decide ((e::es).length+([]:List Keyword).length+(if([]:List Keyword).isEmpty then 0 else 1)<30))=true:=by rfl)
  (hline:(apos.endLine ==cpos.line)=true:=by rfl) (hs:bv (e::es) X.env=(false,eval e X.env)::bv es X.env:=by rfl) (hplain:(backTo cpos (bv es X.env)).any (·.1)=false:=by rfl):
  PE X (.Call (.Attribute o name apos) (e::es) [] cpos) (Hm X.K T r to t):=by
 intro Y s U H Q I h;refine wpAny_Call_method_late hbase hfew hline rfl (aG (ho Y s U H _ I h) λv s1 ⟨x,H1,I1,r1,ty,q1⟩=>?_);obtain⟨h1,h2⟩:=vp I1 r1 ty;refine⟨T,id,pa,slot,hty,h1,h2,?_⟩;have hA:=ha cpos Y s1 U H1 _ I1 q1;rw[hs]at hA⊢;refine Calls.callWith_builtin (by show(false||(backTo cpos (bv es X.env)).any (·.1))=false;rw[hplain]<;>rfl) (Calls.evalArgs_plain ?_);exact aG hA λus s2 ⟨vs,H2,I2,r2,q2⟩=>hm Y s2 U H2 x vs v us Q I2 r1 r2 q2
/- xs.append(e),list.index on a module's tuple .. are zP facts of 06m -/
end
abbrev FD (X:Cx)(id:String)(r:V->List V->Hp->VK->Prop):Prop:=
 ∀ (Y:HD) (s:Shared) (U:St) (H:Hp) (x:V) (xs:List V) (v:Value) (us:List Value) (Q:VK),Inv X Y U H s->RelV x v->Vals xs us->r x xs H Q->
  wpAny (model X.prog X.w) X.A (call (.builtin id) (v::us)) (EP X Y U Q) X.xe s
def Vals.one:∀ {x:V}{us:List Value},Vals [x] us->∃ u,us=[u]/\RelV x u
 |_,_,.cons r .nil=>⟨_,rfl,r⟩
def Vals.zero:∀ {us:List Value},Vals [] us->us=[]
 |_,.nil=>rfl
def Vals.reverse {xs:List V}{us:List Value}(h:Vals xs us):Vals xs.reverse us.reverse:=by
 induction h with
 |nil=>exact .nil
 |cons r t ih=>rw[List.reverse_cons,List.reverse_cons];exact Vals.append ih (.cons r .nil)
section
variable {X:Cx}{Y:HD}{U:St}{H:Hp}{s:Shared}{l b:Addr}{xs ys zs:List V}
def Inv.BV {its its':List Value}{f:Array Value->Array Value}{t':Nat}(I:Inv X Y U H s)(hH:H l=some (.lst xs))
  (e:s.heap.get? l=some { cls:=.type "list",data:=.seq its.toArray n }) (hf:f its.toArray=its'.toArray) (hv:Vals ys its') (hz:ys.length<=ce):
  Inv X Y U (upd H l (.lst ys)) { s with heap:=s.heap.update l (Obj.mapSeq f),toks:=t' }:=by
 have q:=PySem.IsL.update e f;rw[hf]at q;refine I.write (x:=l) (e:=l) (by rw[hH];exact trivial) (.inl rfl) (λb' u hb hu=>(Heap.get?_update_other s.heap (Obj.mapSeq f) (Ne.symm hb)).trans hu) ⟨_,q⟩ ?_;exact⟨hz,its',_,hv,q⟩
def Inv.Fi {its:List Value}{t':Nat}(I:Inv X Y U H s)(hv:Vals ys its)(hz:ys.length<=ce):
  Inv X Y U (upd H s.heap.objs.size (.lst ys)) { s with heap:=s.heap.push { cls:=.type "list",data:=.seq its.toArray },toks:=t' }:=
 I.laid (λ_ _ q=>u8 _ q) (s0 _) ⟨hz,its,0,hv,ut _ rfl⟩
def Inv.fresh (I:Inv X Y U H s):H s.heap.objs.size=none:=I.hok.fresh (s0 _)
def Inv.n5 (I:Inv X Y U H s)(hH:H l=some (.lst xs)):xs.length<=ce/\∃ (its:List Value) (n:Nat),Vals xs its/\xs.length=its.length/\s.heap.get? l=some { cls:=.type "list",data:=.seq its.toArray n }:=by
 obtain⟨z,its,n,r,e⟩:=I.hok l _ hH;exact⟨z,its,n,r,r.length,e⟩
def ub (h:n<=ce):Builtin.List.listTooLong n=false:=by
 unfold Builtin.List.listTooLong;exact decide_eq_false nofun
end
section
variable {X:Cx}
abbrev xV:V->List V->Hp->VK->Prop:=λx vs H Q=>∃ l xs y,x=.ref l/\vs=[y]/\H l=some (.lst xs)/\xs.length<ce/\Q .non (upd H l (.lst (xs++[y])))
def gB:FD X "list.append" xV:=by
 intro Y s U H x vs v us Q I rx rv h;obtain⟨l,xs,y,rfl,rfl,hH,hz,q⟩:=h;cases rx;obtain⟨u,rfl,ru⟩:=rv.one;obtain⟨z,its,n,r,hl,e⟩:=I.n5 hH;refine call_meets F.slot_list_append ⟨_,e,rfl⟩ F.entry_list_append (F.args_list_append_2 _ _) (PySem.list_append l its.toArray n u (by rw[io];omega)) ⟨e,?_⟩;refine⟨.non,_,I.BV (its':=its++[u]) hH e (by simp) (r.append (.cons ru .nil)) ?_,rfl,q⟩;rw[db,gt]
 omega
abbrev yA:V->List V->Hp->VK->Prop:=λx vs H Q=>∃ l b xs zs,x=.ref l/\vs=[.ref b]/\H l=some (.lst xs)/\H b=some (.lst zs)/\xs.length+zs.length<=ce/\Q .non (upd H l (.lst (xs++zs)))
def rH:FD X "list.extend" yA:=by
 intro Y s U H x vs v us Q I rx rv h;obtain⟨l,b,xs,zs,rfl,rfl,hH,hB,hz,q⟩:=h;cases rx;obtain⟨u,rfl,ru⟩:=rv.one;cases ru;obtain⟨z,its,n,r,hl,e⟩:=I.n5 hH;obtain⟨z2,jA,n2,r2,hl2,e2⟩:=I.n5 hB;have hsz:its.toArray.size+jA.toArray.size<=ce:=by rw[io,io];omega
 have hlong:¬ (!its.toArray.isEmpty&&Builtin.List.listTooLong (its.toArray.size+jA.toArray.size))=true:=by
  rw[ub hsz,Bool.and_false];exact Bool.false_ne_true
 refine call_meets F.slot_list_extend ⟨_,e,rfl⟩ F.entry_list_extend (F.args_list_extend_2 _ _)
  (AutoSeq1.list_extend_list_list_0 l its.toArray n b jA.toArray n2 hlong (by rw[io];omega) nofun) ⟨e,e2,?_⟩
 refine⟨.non,_,I.BV (its':=its++jA) hH e (by simp) (r.append r2) ?_,rfl,q⟩;rw[db]
 omega
abbrev FI:R2:=λx y H Q=>∃ l b xs zs,x=.ref l/\y=.ref b/\H l=some (.lst xs)/\H b=some (.lst zs)/\xs.length+zs.length<=ce/\∀ p,H p=none->Q (.ref p) (upd H p (.lst (xs++zs)))
def Cq:cL X (binaryOp .Add) FI:=by
 intro Y s U H x y v u Q I rx ry h;obtain⟨l,b,xs,zs,rfl,rfl,hH,hB,hz,q⟩:=h;cases rx;cases ry;obtain⟨z,its,n,r,hl,e⟩:=I.n5 hH;obtain⟨z2,jA,n2,r2,hl2,e2⟩:=I.n5 hB;refine PySem.P.add_list e e2 ?_ (by rw[io,io];omega);have ea:its.toArray++jA.toArray=(its++jA).toArray:=by simp
 rw[ea];exact⟨.ref _,_,I.Fi (t':=s.toks) (r.append r2) (by rw[db];omega),rfl,q _ I.fresh⟩
end
section
variable {prog:Program}{w:World}{A:Around}{E:HC}{s:Shared}
set_option maxRecDepth 100000 in
end
section
variable {X:Cx}
end
variable {o:Option V}
section
variable {κ:Type} [DecidableEq κ]
abbrev jC (kvs:List (κ×V))(k:κ):Option V:=(kvs.find? λkv=>decide (kv.1=k)).map (·.2)
abbrev putK (kvs:List (κ×V))(k:κ)(v:V):List (κ×V):=
 if(kvs.any λkv=>decide (kv.1=k))=true then kvs.map (λkv=>if kv.1=k then(kv.1,v) else kv) else kvs++[(k,v)]
def iU {p:κ×V}{r:List (κ×V)}{k:κ}(e:p.1=k):jC (p::r) k=some p.2:=by simp[jC,find?_cons,e]
def iY {p:κ×V}{r:List (κ×V)}{k:κ}(e:¬ p.1=k):jC (p::r) k=jC r k:=by simp[jC,find?_cons,e]
def nH (k:κ):∀ kvs:List (κ×V),(kvs.any λkv=>decide (kv.1=k))=(jC kvs k).isSome
 | []=>rfl
 |p::r=>by
  rw[any_cons]
  by_cases e:p.1=k
  .simp only[iU e,decide_eq_true e,Bool.true_or,Option.isSome_some]
  .rw[iY e,decide_eq_false e,Bool.false_or];exact nH k r
def gS (kvs:List (κ×V))(k:κ)(v:V):(putK kvs k v).length<=kvs.length+1:=by
 unfold putK
 split
 .rw[cr];omega
 .rw[db,length_cons,length_nil];omega
def cI.rN {u:Option Value}(r:cI o u):o.isSome=u.isSome:=by
 cases o with
 |none=>cases u with
  |none=>rfl
  |some _=>exact(show False from r).elim
 |some _=>cases u with
  |none=>exact(show False from r).elim
  |some _=>rfl
def KV.val {kvs:List (κ×V)}{vs:List (κ×Value)}(r:KV kvs vs)(k:κ):cI (jC kvs k) (valueAt vs k):=by
 unfold KV at r
 induction r with
 |nil=>exact True.intro
 | @cons p q ps qs h t ih=>
  obtain⟨h1,h2⟩:=h
  by_cases e:p.1=k
  .have e':q.1=k:=h1.symm.trans e;have b:valueAt (q::qs) k=some q.2:=by simp[valueAt,find?_cons,e']
   rw[iU e,b];exact h2
  .have e':¬ q.1=k:=λz=>e (h1.trans z)
   have b:valueAt (q::qs) k=valueAt qs k:=by simp[valueAt,find?_cons,e']
   rw[iY e,b];exact ih
def KV.any {kvs:List (κ×V)}{vs:List (κ×Value)}(r:KV kvs vs)(k:κ):(kvs.any λkv=>decide (kv.1=k))=vs.any λkv=>decide (kv.1=k):=by
 unfold KV at r
 induction r with
 |nil=>rfl
 |cons h t ih=>rw[any_cons,any_cons,ih,h.1]
def KV.AH {kvs:List (κ×V)}{vs:List (κ×Value)}(r:KV kvs vs)(k:κ)(ry:RelV y u):
  KV (kvs.map λkv=>if kv.1=k then(kv.1,y) else kv) (vs.map λkv=>if kv.1=k then(kv.1,u) else kv):=by
 unfold KV at r⊢
 induction r with
 |nil=>exact .nil
 | @cons p q ps qs h t ih=>
  rw[map_cons,map_cons];refine .cons ?_ ih;obtain⟨h1,h2⟩:=h
  by_cases e:p.1=k
  .rw[if_pos e,if_pos (h1.symm.trans e)];exact⟨h1,ry⟩
  .rw[if_neg e,if_neg (λz=>e (h1.trans z))];exact⟨h1,h2⟩
def KV.put {kvs:List (κ×V)}{vs:List (κ×Value)}(r:KV kvs vs)(k:κ)(ry:RelV y u):KV (putK kvs k y) (stored vs k u):=by
 unfold putK stored;rw[r.any k]
 by_cases e:(vs.any λkv=>decide (kv.1=k))=true
 .rw[if_pos e,if_pos e];exact r.AH k ry
 .rw[if_neg e,if_neg e];exact Paired.snoc r ⟨rfl,ry⟩
def KV.length {kvs:List (κ×V)}{vs:List (κ×Value)}(r:KV kvs vs):kvs.length=vs.length:=Paired.length r
end
variable {P:Program}
def vA {w:World}{k:Key}(r:RelV (kV k) u):(aN P w).is k u=true:=by
 cases k with
 |inl i=>obtain⟨t,e⟩:=(show ∃ t,u=Value.int i t from r);subst e;exact mn P w i t
 |inr x=>obtain⟨t,e⟩:=(show ∃ t,u=Value.str x t from r);subst e;exact mD P w x t
def kl {P:Program}{w:World}:∀ {ks:List Key}{us:List Value},Vals (ks.map kV) us->ItemsAre (aN P w) ks us
 | [],_,r=>by rw[List.map_nil]at r;cases r;exact .nil
 |k::ks,_,r=>by
  rw[map_cons]at r;cases r with
  |cons h t=>exact .cons (vA h) (kl t)
@[reducible]def KT (H:Hp):List (List Key×V)->List (List Key×Addr×Value)->Prop:=Paired λp q=>p.1=q.1/\H q.2.1=some (.tup (p.1.map kV))/\RelV p.2 q.2.2
variable {kvs:List (List Key×V)}{xs:List (List Key×Addr×Value)}
def KT.val (r:KT H kvs xs)(k:List Key):cI (jC kvs k) ((atKey xs k).map (·.2)):=by
 induction r with
 |nil=>exact True.intro
 | @cons p q ps qs h t ih=>
  obtain⟨h1,_,h2⟩:=h
  by_cases e:p.1=k
  .have e':q.1=k:=h1.symm.trans e;have b:atKey (q::qs) k=some q.2:=by simp[atKey,find?_cons,e']
   rw[iU e,b];exact h2
  .have e':¬ q.1=k:=λz=>e (h1.trans z)
   have b:atKey (q::qs) k=atKey qs k:=by simp[atKey,find?_cons,e']
   rw[iY e,b];exact ih
def KT.AH (r:KT H kvs xs)(k:List Key)(ry:RelV y u):
  KT H (kvs.map λkv=>if kv.1=k then(kv.1,y) else kv) (xs.map (putAt k u)):=by
 induction r with
 |nil=>exact .nil
 | @cons p q ps qs h t ih=>
  rw[map_cons,map_cons];refine .cons ?_ ih;obtain⟨h1,h2,h3⟩:=h;unfold putAt
  by_cases e:p.1=k
  .rw[if_pos e,if_pos (h1.symm.trans e)];exact⟨h1,h2,ry⟩
  .rw[if_neg e,if_neg (λz=>e (h1.trans z))];exact⟨h1,h2,h3⟩
def KT.put (r:KT H kvs xs)(k:List Key){b:Addr}(hb:H b=some (.tup (k.map kV)))(ry:RelV y u):
  KT H (putK kvs k y) (storedH xs k b u):=by
 have e:(kvs.any λkv=>decide (kv.1=k))=(atKey xs k).isSome:=by
  rw[nH,(r.val k).rN,Option.isSome_map]
 unfold putK storedH;rw[e]
 by_cases q:(atKey xs k).isSome=true
 .rw[if_pos q,if_pos q];exact r.AH k ry
 .rw[if_neg q,if_neg q];exact Paired.snoc r ⟨rfl,hb,ry⟩
variable {H':Hp}
def KT.keeps (r:KT H kvs xs)(ht:∀ b ys,H b=some (.tup ys)->H' b=some (.tup ys)):KT H' kvs xs:=
 Paired.CB r λ_ _ z=>⟨z.1,ht _ _ z.2.1,z.2.2⟩
section
variable {P:Program}{w:World}{H:Hp}{h:Heap}{a:Addr}
def Ag {u:HO}(ok:fh P w H h)(e:Rd H a u):aJ P w H h a u:=e.ok ok
def kb {kvs:List (Key×V)}(ok:fh P w H h)(e:Rd H a (.dK kvs)):kvs.length<=ce/\(a ==sysModules)=false/\∃ vs,KV kvs vs/\h.DictOf (aN P w) a vs:=
 show aJ P w H h a (.dK kvs) from Ag ok e
def D3 {kvs:List (Key×V)}(ok:fh P w H h)(e:H a=some (.dK kvs)):kvs.length<=ce/\(a ==sysModules)=false/\∃ vs,KV kvs vs/\h.DictOf (aN P w) a vs:=kb ok (.inl e)
def pK {ks:List Key}(ok:fh P w H h)(e:H a=some (.tup (ks.map kV))):(tupleKind (aN P w)).is h ks a:=by
 obtain⟨_,its,r,o,h1,h2,n,h3⟩:=(show aJ P w H h a (.tup (ks.map kV)) from ok a _ e);exact⟨o,its.toArray,n,h1,h2,h3,by simpa using kl r⟩
def wm (ok:fh P w H h)(e:Rd H a (.dT kvs)):kvs.length<=ce/\(a ==sysModules)=false/\
  ∃ xs,KT H kvs xs/\h.DictOfH (tupleKind (aN P w)) a xs:=by
 obtain⟨z,y,xs,r,o,es,ep,h1,h2,h3,h4,h5⟩:=(show aJ P w H h a (.dT kvs) from Ag ok e);refine⟨z,y,xs,r,o,es,ep,h1,h2,h3,h4,λx hx=>?_,h5⟩;have all:∀ {l:List (List Key×V)}{m:List (List Key×Addr×Value)},KT H l m->∀ x ∈ m,(tupleKind (aN P w)).is h x.1 x.2.1:=by
  intro l m q
  induction q with
  |nil=>intro x hx;exact nomatch hx
  | @cons p q ps qs hq t ih=>
   intro x hx;rcases mo.mp hx with e|hx
   .subst e;exact pK ok (by rw[<-hq.1];exact hq.2.1)
   .exact ih x hx
 exact all r x hx
def Df (ok:fh P w H h)(e:H a=some (.dT kvs)):kvs.length<=ce/\(a ==sysModules)=false/\
  ∃ xs,KT H kvs xs/\h.DictOfH (tupleKind (aN P w)) a xs:=wm ok (.inl e)
end
abbrev Bb (H:Hp)(a:Addr)(y:V)(r:Option V):Prop:=
 (∃ kvs k,Rd H a (.dK kvs)/\y=kV k/\r=jC kvs k)\/∃ kvs k b,Rd H a (.dT kvs)/\y=.ref b/\H b=some (.tup (k.map kV))/\r=jC kvs k
abbrev DA (H:Hp)(a:Addr)(y v:V)(H':Hp):Prop:=
 (∃ kvs k,H a=some (.dK kvs)/\y=kV k/\kvs.length<ce/\H'=upd H a (.dK (putK kvs k v)))\/
 ∃ kvs k b,H a=some (.dT kvs)/\y=.ref b/\H b=some (.tup (k.map kV))/\kvs.length<ce/\H'=upd H a (.dT (putK kvs k v))
section
variable {X:Cx}{Y:HD}{U:St}{H:Hp}{s:Shared}{a:Addr}{y v:V}{u r:Value}{o:Option V}{A:Around}{E:HC}
def tB {Q:HC}(hu:A.units+1<cLine)(I:Inv X Y U H s)(g:Bb H a y (some v))(ry:RelV y u)(h:∀ w' s',Inv X Y U H s'->RelV v w'->Q w' s'):
  wpAny (model X.prog X.w) A (getItem (.ref a) u) Q E s:=by
 rcases g with⟨kvs,k,e,ey,l⟩|⟨kvs,k,b,e,ey,eb,l⟩
 .subst ey;obtain⟨z,hd,vs,rel,dd⟩:=kb I.hok e;obtain⟨w',hw,rw'⟩:=cI.some_of (v:=v) (o:=valueAt vs k) (by rw[l];exact rel.val k);exact wpAny_getItem_of (vA ry) dd.mapOf hw (h w' _ (I.tok _) rw')
 .subst ey;cases(show u=Value.ref b from ry);obtain⟨z,hd,xs,rel,dd⟩:=wm I.hok e;obtain⟨w',hw,rw'⟩:=cI.some_of (v:=v) (o:=(atKey xs k).map (·.2)) (by rw[l];exact rel.val k);obtain⟨p,hp,hp2⟩:=ol.mp hw;refine wpAny_getItem_heap (tupleKind_room_in1 hu) (pK I.hok eb) dd hp ?_;rw[hp2];exact h w' _ (I.tok _) rw'
def pR {h':Heap}{t':Nat}{ob:HO}(I:Inv X Y U H s)(mu:Et (H a))(hs:Heap.SameBut a s.heap h')(he:∃ q,h'.get? a=some q) (new:aJ X.prog X.w (upd H a ob) h' a ob):
  Inv X Y U (upd H a ob) { s with heap:=h',toks:=t' }:=
 I.write (x:=a) (e:=a) mu (.inl rfl) (λb q hb z=>(hs.2 b hb).trans z) he new
def B9 {w:World}{h':Heap}{kvs:List (Key×V)}{vs:List (Key×Value)}(z:kvs.length<=ce)(hd:(a ==sysModules)=false)(rel:KV kvs vs)(dd:h'.DictOf (aN P w) a vs):
  aJ P w H' h' a (.dK kvs):=⟨z,hd,vs,rel,dd⟩
def rP {Q:HB}(hu:A.units+1<cLine)(I:Inv X Y U H s)(g:DA H a y v H')(ry:RelV y u)(rv:RelV v r)(h:∀ s',Inv X Y U H' s'->Q () s'):
  wpAny (model X.prog X.w) A (setItem (.ref a) u r) Q E s:=by
 rcases g with⟨kvs,k,e,ey,l,eH⟩|⟨kvs,k,b,e,ey,eb,l,eH⟩
 .subst ey eH;obtain⟨z,hd,vs,rel,dd⟩:=D3 I.hok e;have hz:vs.length<=ce:=by rw[<-rel.length];exact z
  have hl:(putK kvs k v).length<=ce:=by have:=gS kvs k v;omega
  refine wpAny_setItem_pairs (hsz:=hz) (vA ry) dd λh' dd' hs=>h _ ?_
  have he:∃ q,h'.get? a=some q:=let⟨q,_,_,hq,_⟩:=dd';⟨q,hq⟩;exact pR I (by rw[e];exact True.intro) hs he (B9 hl hd (rel.put k rv) dd')
 .subst ey eH;cases(show u=Value.ref b from ry);obtain⟨z,hd,xs,rel,dd⟩:=Df I.hok e;have hz:xs.length<=ce:=by rw[<-Paired.length rel];exact z
  have hl:(putK kvs k v).length<=ce:=by have:=gS kvs k v;omega
  refine wpAny_setItem_heap (hsz:=hz) (tupleKind_room_in1 hu) (pK I.hok eb) dd λh' dd' hs=>h _ ?_
  obtain⟨q,es,ep,hq,h2,h3,h4,_,h5⟩:=dd';refine pR I (by rw[e];exact True.intro) hs ⟨q,hq⟩ ⟨hl,hd,_,(rel.put k eb rv).keeps λc ys ec=>?_,q,es,ep,hq,h2,h3,h4,h5⟩;rw[af (Dn ec e (λz=>nomatch z))];exact ec
end
section
variable {X:Cx}{Y:HD}{U:St}{H:Hp}{s:Shared}{a:Addr}{kvs:List (Key×V)}{k:Key}{u:Value}{A:Around}{E:HC}
end
def nu {X:Cx}{a:Addr}(I:Inv X Y U H s)(g:Bb H a y o):s.TypeIs (.ref a) "dict":=by
 rcases g with⟨kvs,k,e,_,_⟩|⟨kvs,k,b,e,_,_,_⟩
 .obtain⟨_,_,vs,_,dd⟩:=kb I.hok e;exact dd.typeIs
 .obtain⟨_,_,xs,_,dd⟩:=wm I.hok e;exact dd.typeIs
section
variable {X:Cx}{o i e value:Expr}{pos pos' tpos:Pos}{td ty tv:TE}
end
section
variable {X:Cx}{pos:Pos}
end
section
variable {X:Cx}{Y:HD}{U:St}{H:Hp}{s:Shared}{a:Addr}{y d:V}{u r:Value}{o:Option V}{A:Around}{E:HC}
end
section
variable {X:Cx}{o e f:Expr}{apos cpos:Pos}{td ty tx:TE}
end
section
variable {X:Cx}{Y:HD}{U:St}{H:Hp}{s:Shared}{a:Addr}{kvs:List (Key×V)}{A:Around}{E:HC}
end
section
variable {X:Cx}{Y:HD}{U:St}{H:Hp}{s:Shared}{a:Addr}{y:V}{u:Value}{A:Around}{E:HC}
end
end L2
namespace Att
open PySem PySem.W PySem.Calls PyProof.Rows
variable {P:Params}
def ic {h:Heap}:∀ (ns:List Int) (vs:List Value),WellAll P h vs (ns.map WData.int)->IntsAre vs ns:=by
 intro ns
 induction ns with
 |nil=>
  intro vs w;rw[List.map_nil]at w;cases w;exact .nil
 |cons n ns ih=>
  intro vs w;rw[map_cons]at w;cases w with
  |cons a b=>
   cases a;exact .cons _ _ (ih _ b)
variable {l:OpenLaw}
def sv {n:Nat}(hn:l.most=some n){h:Heap}{args:List WData}{vals:List Value}
  (hpre:l.row.toRowW.claim.pre args=true) (hwl:WellAll P h vals args):
  ∃ a vs ns,vals=[Value.ref a]/\args=[WData.list (ns.map WData.int)]/\h.get? a=some { cls:=.type "list",data:=.seq vs.toArray }/\IntsAre vs ns/\ns.length<=n:=by
 have hsh:WShape.hasAll [] args [.list .int]=true:=(pre_splitW hpre).1;have hc:l.pre.holds [] { args:=args }=true:=(pre_splitW hpre).2;obtain⟨d,r,rfl,h1,h2⟩:=hasAllW_cons hsh;obtain rfl:=hasAllW_nil h2;obtain⟨xs,rfl,h3⟩:=hasW_list h1;obtain⟨ns,rfl⟩:=items_int h3;have hlen:ns.length<=n:=by
  unfold OpenLaw.pre at hc;have h4:(WTm.not (.lt (.lit (.int (n:Int))) (.len (.arg 0)))).holds [] { args:=[.list (ns.map .int)] }=true:=by
   have h4:=(holds_andW hc).1;rw[hn]at h4;exact h4
  have h5:=condW_of h4 (w_not (w_lt w_lit (w_len_list (w_arg rfl))));rw[cr]at h5;refine Nat.le_of_not_lt λq=>?_
  have q':(n:Int)<((ns.length:Nat):Int):=by omega
  first
   |(rw[decide_eq_true q']at h5;exact absurd h5 (by decide))
   |(simp at h5;omega)
 cases hwl with
 |cons w1 w2=>
  cases w2;cases w1 with
  |list ho hall=>exact⟨_,_,ns,rfl,rfl,ho,ic ns _ hall,hlen⟩
def sh (l:OpenLaw)(args:List WData):l.row.toRowW.claim.post args (.bool true) args=true:=
 postW_of (r:=l.row.toRowW) (X:=(true ==true))
  (show WShape.has [] (.bool true) .bool=true by first|rfl|decide|simp[WShape.has,WShape.arms,WShape.armsAll])
  (show(WTm.eq .res (.lit (.bool true))).value [] { args:=args,res:=some (.bool true),after:=args }=some (.bool (true ==true)) from w_eq_bool (w_res rfl) w_lit) rfl
def mZ {n:Nat}{q:Program}{loose:List Str}{XP:(Str->Option Value)->Heap->Prop}{YP:World->Heap->Prop}{d:DefRec}
  (hn:l.most=some n) (hdf:d.params.defaults=[])
  (call:∀ (w:World) (s₀ s₁:Shared) (mg mb:HE) (fa:Addr) (o:Obj) (pm cd doc:Value) (a:Addr) (vs:List Value) (ns:List Int),
   Ground q loose [] XP w s₀ mg mb s₁.heap->YP w s₁.heap->
   s₁.heap.get? fa=some o->o.data=.func (docDef d.name d.params d.body d.scope pm cd doc)->s₁.heap.CodeRec cd d.name->mg d.name=some (.ref fa)->
   s₁.heap.get? a=some { cls:=.type "list",data:=.seq vs.toArray }->IntsAre vs ns->ns.length<=n->s₁.gens=#[]->
   codeAny (model l.prog w) callerA (.call (.ref fa) ⟨[.ref a],[]⟩) (λr s'=>r=.ok (.ret (.bool true))/\OldK s₁.heap s'.heap/\s'.os=s₁.os/\AllBare s'.gens) s₁):
  WalkO q loose XP YP l.row.toRowW d [] (λf vs=>PySem.call f vs):=by
 intro w s₀ s₁ mg mb G Y fa o pm cd doc dV kV ho hd hcd hD hmg hg args vals as hpre hlay hrd hwl hlo;obtain rfl:dV=.none:=Dflts.none hD hdf;obtain rfl:kV=.none:=Dflts.noKw hD;obtain⟨a,vs,ns,rfl,rfl,hobj,hints,hlen⟩:=sv hn hpre hwl;refine enter_call (codeAny_mono (call w s₀ s₁ mg mb fa o pm cd doc a vs ns G Y ho (fd_plain hd) hcd hmg hobj hints hlen hg) λr s' hq=>?_);obtain⟨rfl,h2,h3,h4⟩:=hq;exact⟨.inl ⟨.bool true,.bool true,[],rfl,λ_=>rfl,.bool true,sh l _,λ_=>⟨List.Pairwise.nil,λ_ hm=>(nomatch hm)⟩⟩,h2,h3,h4⟩
section
variable {prog:Program}{w:World}{A:Around}{E:HC}{s:Shared}{K:Frag}
end
end Att
namespace L2
open PySem PySem.Spec PyProof.Rows
def jV:∀ {vs:List Value}{ns:List Int},IntsAre vs ns->Vals (ns.map V.int) vs
 |_,_,.nil=>.nil
 |_,_,.cons n t h=>.cons ⟨t,rfl⟩ (jV h)
abbrev A2 (H:Hp):Prop:=∀ b,H b=none\/∃ o xs,H b=some (.kn o (.lst xs))
def ux {P:Program}{w:World}{K:W.Frag}{mg mb:HE}{CX:qd}{k:Nat}{fa a:Addr}{fd:FuncData}{x:Str}{sp:Sp}{s₁:Shared}{vs:List Value}{ns:List Int}
  (KX:K.In s₁.heap) (hns:s₁.heap.Ns mainGlobals mg) (hb:s₁.heap.Ns builtinsNs mb) (hbb:∀ x:Str,x≠"__name__"->mb x=bootBuiltins x) (hlim:s₁.heap.NoLimit) (hg:s₁.gens=#[])
  (ha:s₁.heap.get? a=some { cls:=.type "list",data:=.seq vs.toArray }) (hi:IntsAre vs ns) (hl:ns.length<=ce) (hr:bC k callerA)
  (F:∀ base:Heap,K.In base->base.Ns mainGlobals mg->cF P w K mg base CX k fa fd [x] sp) (hbind:∀ (s:Shared) (u:Value),BindsTo s fd ⟨[u],[]⟩ [(x,u)])
  (hsp:∀ H:Hp,A2 H->aV K H a (ns.map V.int)->sp [.ref a] H (λv _=>v=.bl true) λ_ _=>False)
  (hCX:∀ H e s',CX [] H s₁ (λ_ _=>False) e s'->False):
  codeAny (model P w) callerA (.call (.ref fa) ⟨[.ref a],[]⟩) (λr s'=>r=.ok (.ret (.bool true))/\OldK s₁.heap s'.heap/\s'.os=s₁.os/\AllBare s'.gens) s₁:=by
 have rv:=jV hi;have lenV:=hi.length;have core:∀ H:Hp,A2 H->aV K H a (ns.map V.int)->fh P w H s₁.heap->(∀ b,H b≠none->b=a)->(H a≠none->K.lookup a=none)->
   codeAny (model P w) callerA (.call (.ref fa) ⟨[.ref a],[]⟩) (λr s'=>r=.ok (.ret (.bool true))/\OldK s₁.heap s'.heap/\s'.os=s₁.os/\AllBare s'.gens) s₁:=by
  intro H hO hS hok hA hK;have base_of:∀ {b:Addr}{o:Obj},s₁.heap.get? b=some o->H b=none->(kD s₁.heap H).get? b=some o:=λe n=>vE e n
  have noA:∀ {b:Addr}{o:Obj}{es:Array DictEntry}{ep:Nat},s₁.heap.get? b=some o->o.data=.dict es ep->H b=none:=λ{b o es ep} e d=>by
   cases q:H b with
   |none=>rfl
   |some u=>
    have e':b=a:=hA b (by rw[q];simp);subst e';rw[ha]at e;cases e;have d':Data.seq vs.toArray _=Data.dict es ep:=d;cases d'
  have nsK:∀ {b:Addr}{m:HE},s₁.heap.Ns b m->(kD s₁.heap H).Ns b m:=λ{b m} ⟨o,es,ep,e,d,r⟩=>⟨o,es,ep,base_of e (noA e d),d,r⟩
  have hKb:K.In (kD s₁.heap H):=λb o e=>base_of (KX b o e) (by
   cases q:H b with
   |none=>rfl
   |some u=>
    have e':b=a:=hA b (by rw[q];simp);subst e';rw[hK (by rw[q];simp)]at e;cases e)
  have hM:Mod K mg (kD s₁.heap H):=⟨hKb,nsK hns,⟨mb,nsK hb,hbb⟩,let⟨mc,h1,h2⟩:=hlim;⟨mc,nsK h1,h2⟩⟩;have e0:nY P w K mg (kD s₁.heap H) callerA [] s₁ H:=⟨rfl,hM,λb o e=>y0 e,Nat.le_of_eq (sg _ _),trivial,λb hb=>absurd (show b ∈ ([]:List Addr) from hb) (by simp),hok,.of_eq hg⟩;refine codeAny_mono ((F _ hKb (nsK hns)).run callerA [] s₁ H ⟨[.ref a],[]⟩ [.ref a] [.ref a] _ _ hr e0 (hbind s₁ (.ref a)) (.cons rfl .nil) (hsp H hO hS)) λr s' h=>?_
  cases r with
  |error e=>exact(hCX H e s' h).elim
  |ok fl=>
   cases fl with
   |next=>exact False.elim h
   |brk=>exact False.elim h
   |cont=>exact False.elim h
   |ret u=>
    obtain⟨v,H',os,bare,un,hok',r',q⟩:=h;have q':v=.bl true:=q;subst q';obtain rfl:u=Value.bool true:=r';refine⟨rfl,OldK.of_keep λb o e=>?_,os,bare⟩;cases q:H b with
    |none=>exact un.keep b o e q (by intro z;exact absurd (show b ∈ ([]:List Addr) from z) (by simp)) (by simp)
    |some u=>
     rcases hO b with z|⟨ob,xs,z⟩
     .rw[q]at z;cases z
     .have z2:=un.frzs b ob _ z;obtain⟨e1,_⟩:=hok b _ z;obtain⟨e2,_⟩:=hok' b _ z2;rw[e]at e1;cases e1;exact e2
 cases hk:K.lookup a with
 |some o=>
  have e:=KX a o hk;rw[ha]at e;cases e;refine core (λ_=>none) (λ_=>.inl rfl) (.inr ⟨_,vs.toArray,_,hk,rfl,rfl,rfl,by rw[io,lenV];exact hl,by simpa using rv⟩) (λb u z=>by have z':(none:Option HO)=some u:=z;cases z') (λb z=>absurd rfl z) λz=>absurd rfl z
 |none=>
  refine core (λb=>if b=a then some (.kn { cls:=.type "list",data:=.seq vs.toArray } (.lst (ns.map V.int))) else none) (λb=>?_) (.inl (.inr ⟨{ cls:=.type "list",data:=.seq vs.toArray },if_pos rfl⟩)) (λb u z=>?_) (λb z=>?_) λ_=>hk
  .by_cases hb:b=a
   .exact .inr ⟨_,_,if_pos hb⟩
   .exact .inl (if_neg hb)
  .by_cases hb:b=a
   .have z':=(if_pos hb).symm.trans z;cases z';subst hb;exact⟨ha,by rw[cr];exact hl,vs,_,rv,ha⟩
   .have z':=(if_neg hb).symm.trans z;cases z'
  .by_cases hb:b=a
   .exact hb
   .exact absurd (if_neg hb) z
def xt {l:W.OpenLaw}{n k:Nat}{q:Program}{loose:List Str}{XP:(Str->Option Value)->Heap->Prop}{YP:World->Heap->Prop}{d:DefRec}{K:Params->W.Frag}{CX:World->qd}{sp:World->Sp}{x:Str}
  (hn:l.most=some n) (hn2:n<=ce) (hdf:d.params.defaults=[]) (hr:bC k callerA)
  (hY:∀ (w:World) (h:Heap),YP w h->(K w.params).In h)
  (F:∀ (w:World) (mg:HE) (fa:Addr) (h:Heap),(K w.params).In h->h.Ns mainGlobals mg->mg d.name=some (.ref fa)->
   ∃ fd:FuncData,(∀ (s:Shared) (u:Value),BindsTo s fd ⟨[u],[]⟩ [(x,u)])/\
    ∀ base:Heap,(K w.params).In base->base.Ns mainGlobals mg->cF l.prog w (K w.params) mg base (CX w) k fa fd [x] (sp w))
  (hsp:∀ (w:World) (H:Hp) (a:Addr) (ns:List Int),ns.length<=n->A2 H->aV (K w.params) H a (ns.map V.int)->sp w [.ref a] H (λv _=>v=.bl true) λ_ _=>False)
  (hCX:∀ (w:World) (H:Hp) (s:Shared) (e:Value) (s':Shared),CX w [] H s (λ_ _=>False) e s'->False):
  W.WalkO q loose XP YP l.row.toRowW d [] (λf vs=>PySem.call f vs):=by
 refine Att.mZ hn hdf λw s₀ s₁ mg mb fa o pm cd doc a vs ns G Y ho hd hcd hmg hobj hints hlen hg=>?_
 have KX:=hY w _ Y;obtain⟨fd,hb,hF⟩:=F w mg fa _ KX G.T.g hmg;exact ux KX G.T.g G.T.b G.T.builtins G.T.nolimit hg hobj hints (Nat.le_trans hlen hn2) hr hF hb (λH hO hS=>hsp w H a ns hlen hO hS) λH e s'=>hCX w H s₁ e s'
section
variable {P:Program}{w:World}{K:W.Frag}{mg:HE}{base:Heap}
end
def cO {n:Nat}(h:n<=1000):n<ce:=Nat.lt_of_le_of_lt h (by decide)
section
variable {X:Cx}
end
end L2
namespace L2
open PySem PySem.Spec PySem.W PyProof.Rows PySem.Builtin PySem.Builtin.ObjectAttr
variable {rs:List Addr}
section
variable {prog:Program}{w:World}{A:Around}{E:HC}{s:Shared}{K:W.Frag}{x C:Addr}{ox od:Obj}{name:Str}{expr:Bool}{v:Value}{Q:HC}
def ma:builtinKind "BaseException.__getattribute__"=some .slot:=by decide+kernel
def km:splitId "BaseException.__getattribute__"=some ("BaseException","__getattribute__"):=by decide+kernel
def wW (X:K.In s.heap)(I:W.InstAt s.heap x ox C (some od))(hga:W.findIn K (.ref C) "__getattribute__"=some (some (.builtin "BaseException.__getattribute__"))) (hgn:W.findIn K (.ref C) "__getattr__"=some none)
  (hb:W.mroIn K C (.type "BaseException")=some true) (hf:W.findObj K C (some od) name=some (.value v)) (hh:W.handedIn v=true) (h:Q v { s with toks:=s.toks+1 }):
  wpAny (model prog w) A (getAttr (.ref x) name expr) Q E s:=by
 obtain⟨hp,g,d,t,os⟩:=s;have L0:=I.type (M:=model prog w);have L1:=looks_findIn (M:=model prog w) X hga;have L2':=looks_findIn (M:=model prog w) X hgn;have L3:=looks_find (M:=model prog w) X I hf;have L4:Looks (model prog w) hp (isInstance (.ref x) (.type "BaseException")) true:=I.type.andThen (looks_mroIn X hb);unfold getAttr getAttrBy;refine ap (wpAny_mkText (bm (ap (L0.at (ap (L1.at ?_))))));have e1:(Value.builtin "BaseException.__getattribute__" ==Value.builtin "object.__getattribute__")=false:=by decide+kernel
 dsimp only;rw[e1,Bool.and_false];show wpAny _ _ (getAttrByItsOwn _ _ _ _ _ _) _ _ _;unfold getAttrByItsOwn hookBefore;refine ap (L2'.at ?_);refine ap (wpAny_attempt (bm ?_));have e2:(expr&&onTheHeap (Value.builtin "BaseException.__getattribute__"))=false:=by cases expr<;>rfl
 unfold callGetattribute;rw[e2];show wpAny _ _ (boundAndCalled _ _ _) _ _ _;unfold boundAndCalled;rw[PySem.F.attr_ValueError.ga.bind];refine ap (bd (wpAny_call (codeAny_call_builtin PySem.F.attr_ValueError.ga.plain PySem.F.entry_bexc_ga ?_)));refine @check_slot (model prog w) _ _ _ "BaseException.__getattribute__" "BaseException" "__getattribute__" (.ref x) [.str name t] [] _ ma km L4 (PySem.F.args_bexc_ga (.ref x) (.str name t)) ?_;unfold Builtin.«object.__getattribute__»;refine ap (bd (ap (bd (ap (L0.at (ap (L3.at ?_)))))));refine bd ?_;show wpAny _ _ (handedOut v) _ _ _;rw[handedOut_of hh];exact bd h
abbrev ue:Value->Bool
 | .ref _=>true
 |_=>false
abbrev bE:List Value:=[.type "ValueError",.type "Exception",.type "BaseException",.type "object"]
abbrev cY (l:List Value):Bool:=l.dropWhile ue ==bE
def cU:∀ {l:List Value},cY l=true->∃ rs:List Addr,l=rs.map Value.ref++bE
 | [],e=>by cases e
 |c::r,e=>by
  by_cases h:ue c=true
  .have e':cY r=true:=by
    unfold cY at e⊢;rw[List.dropWhile_cons_of_pos h]at e;exact e
   obtain⟨rs,q⟩:=cU e';cases c with
   |ref a=>exact⟨a::rs,by rw[q];rfl⟩
   |_=>cases h
  .unfold cY at e;rw[List.dropWhile_cons_of_neg h]at e;exact⟨[],beq_iff_eq.mp e⟩
def iW (self:Value):∀ rs:List Addr,refuseLoop self "__setattr__" (rs.map Value.ref++bE)=pure ()
 | []=>PySem.F.store_ValueError.passes self
 |a::r=>by rw[map_cons,cons_append,refuseLoop_ref];exact iW self r
structure bY (K:W.Frag) (C:Addr):Prop where
 mt:W.typeIn K (.ref C)=some (.type "type")
 ov:(W.clsIn K C).any (λcd=>cY cd.mro)=true
 hd:W.hasDictIn K C=true
 ga:W.findIn K (.ref C) "__getattribute__"=some (some (.builtin "BaseException.__getattribute__"))
 gn:W.findIn K (.ref C) "__getattr__"=some none
 sa:W.findIn K (.ref C) "__setattr__"=some (some (.builtin "object.__setattr__"))
def bY.mro (c:bY K C):∃ (cd:ClassData) (rs:List Addr),W.clsIn K C=some cd/\cd.mro=rs.map Value.ref++bE:=by
 obtain⟨cd,h1,h2⟩:=W.any_some c.ov;obtain⟨rs,h3⟩:=cU h2;exact⟨cd,rs,h1,h3⟩
def mV (h:bE.contains v=true):(rs.map Value.ref++bE).contains v=true:=by
 rw[List.contains_eq_mem,decide_eq_true_eq]at h⊢;exact jp _ h
def qZ:(rs.map Value.ref++bE).isEmpty=false:=by cases rs<;>rfl
def bY.sub (c:bY K C)(h:bE.contains v=true):W.mroIn K C v=some true:=by
 obtain⟨cd,rs,h1,h2⟩:=c.mro;unfold W.mroIn;rw[h1,Option.bind_some,h2,if_neg (by rw[qZ];decide),mV h]
variable {R:Result->Shared->Prop}
def nF {tk:Tok}{odo:Option Obj}(X:K.In s.heap)(I:W.InstAt s.heap x ox C odo)(c:bY K C)(ht:W.findIn K (.ref C) name=some none)
  (h:wpAny (model prog w) A.in1 (storeInOwnDict (.ref x) (.ref C) (.str name tk) name v false)
   (λfin s'=>match fin with| .done f=>R (.ok f) s'| .again c'=>c'.quiet=true/\codeAny (model prog w) A c' R s') (λe s'=>R (.error e) s') s):
  codeAny (model prog w) A (.call (.builtin "object.__setattr__") ⟨[.ref x,.str name tk,v],[]⟩) R s:=by
 have SF:=PySem.F.store_object;obtain⟨cd,rs,hc,hm⟩:=c.mro;have sub:Looks (model prog w) s.heap (isInstance (.ref x) (.type "object")) true:=I.type.andThen (looks_mroIn X (c.sub (by decide+kernel)));refine codeAny_call_builtin SF.slot.plain SF.entry (@check_slot (model prog w) _ _ s "object.__setattr__" "object" "__setattr__" (.ref x) [.str name tk,v] [] _ SF.kind SF.split sub (SF.args (.ref x) (.str name tk) v) ?_);have hl:Looks (model prog w) s.heap (mroOf (.ref C)) cd.mro:=(looks_clsIn X hc).andThen .now;rw[osa_eq,refuse_eq];refine ap (ap (I.type.here (ap (hl.here ?_))));rw[hm,iW];refine bd (ap (I.type.here (ap ((looks_findIn X ht).here (ap (bd ?_))))));exact h
end
variable {Q:HC}{u:Value}
section
variable {X:Cx}{Y:HD}{U:St}{H:Hp}{s:Shared}{a C dx:Addr}{fs:List (Str×V)}{f:Str}{v:V}{A:Around}{E:HC}{fr:Bool}
def j5 {b:Bool}(I:Inv X Y U H s)(e:H a=some (.exc C (some dx) fs fr))(c:bY X.K C)(n:dF X.K C f)(l:fs.lookup f=some v)
  (h:∀ u s',Inv X Y U H s'->RelV v u->Q u s'):wpAny (model X.prog X.w) A (getAttr (.ref a) f b) Q E s:=by
 obtain⟨⟨vs,ho,_⟩,z⟩:=I.hok a _ e;rcases z with⟨z,_⟩|⟨d,ed,_,_,_,mA,hn,r,_⟩
 .cases z
 cases ed;obtain⟨u,hu,ru⟩:=cI.some_of (v:=v) (o:=mA f) (by rw[<-l];exact r f);obtain⟨od,hod,hl⟩:=gk hn;refine wW (ox:={ cls:=.ref C,dict:=some dx,data:=.fields vs }) (od:=od) I.bF ⟨ho,rfl,rfl,hod⟩ c.ga c.gn (c.sub (by decide+kernel)) (W.findObj_own c.hd n rfl (by rw[hl,hu])) (kx ru) (h u _ (I.tok _) ru)
def jr {y:V}{Q:HB}(I:Inv X Y U H s)(e:H a=some (.exc C (some dx) fs fr))(c:bY X.K C)(n:dF X.K C f)(hl:fs.length<1000)(ry:RelV y u)
  (h:∀ s',Inv X Y U (upd H a (.exc C (some dx) (cw f y fs) fr)) s'->Q () s'):wpAny (model X.prog X.w) A (setAttr (.ref a) f u) Q E s:=by
 obtain⟨⟨vs,ho,zz⟩,z⟩:=id (I.hok a _ e);rcases z with⟨z,_⟩|⟨d,ed,hown,_,hne,mA,hn,r,wi⟩
 .cases z
 cases ed;obtain⟨od,hod,hlk⟩:=gk hn;have hz:(fs.map (·.1)).length<=ce:=by rw[cr,sizeLine_eq];omega
 have J:W.InstAt s.heap a { cls:=.ref C,dict:=some dx,data:=.fields vs } C (some od):=⟨ho,rfl,rfl,hod⟩;refine W.set_plain I.bF J c.sa (nF (s:={ s with toks:=s.toks+1 }) I.bF J c n ?_);obtain⟨cd,hc,hd'⟩:=W.any_some c.hd;refine ap (bd (ap (ap (wpAny_loadPart ho (ap (W.Looks.here (s:={ s with toks:=s.toks+1 }) (W.looks_clsIn I.bF hc) ?_))))));rw[hd'];refine bd (a:=some dx) (ap (bd (ap ?_)));refine wpAny_nsSet1 (s:={ s with toks:=s.toks+1 }) hn λh' hn2 hs2=>?_
 obtain⟨oD,esD,epD,hoD,hdD,hcD⟩:=hn2.count (PySem.Within.cons f u wi);refine ap (wpAny_lookBehind hoD (by rw[hdD];exact pastItsLine_dict (Nat.le_trans hcD (by rw[length_cons];omega))) ?_);refine bd (h _ ?_);refine I.write (x:=a) (e:=dx) (by rw[e];exact True.intro) (.inr hown) (λb q hb z=>(hs2.2 b hb).trans z) ⟨oD,hoD⟩ ?_;refine⟨⟨vs,(hs2.2 _ (Ne.symm hne)).trans ho,zz⟩,.inr ⟨dx,rfl,by rw[af hne];exact hown,?_,hne,_,hn2,λg=>?_,λg hg=>?_⟩⟩
 .have:=dG f y fs;omega
 .show cI ((cw f y fs).lookup g) (if g=f then some u else mA g);rw[dH]
  by_cases q:g=f
  .rw[if_pos q,if_pos q];exact ry
  .rw[if_neg q,if_neg q];exact r g
 .by_cases q:g=f
  .rw[q];exact(cJ f y fs).1
  .refine(cJ f y fs).2 g (wi g λz=>hg ?_);show(if g=f then some u else mA g)=none;rw[if_neg q];exact z
def iL {y:V}{Q:HB}(I:Inv X Y U H s)(e:H a=some (.exc C none fs fr))(c:bY X.K C)(n:dF X.K C f)(ry:RelV y u)
  (h:∀ d s',H d=none->Inv X Y U (upd (upd H d (.own a)) a (.exc C (some d) [(f,y)] fr)) s'->Q () s'):wpAny (model X.prog X.w) A (setAttr (.ref a) f u) Q E s:=by
 obtain⟨⟨vs,ho,zz⟩,z⟩:=id (I.hok a _ e);have hfs:fs=[]:=by
  rcases z with⟨_,z⟩|⟨d,ed,_⟩
  .exact z
  .cases ed
 subst hfs;have J:W.InstAt s.heap a { cls:=.ref C,dict:=none,data:=.fields vs } C none:=⟨ho,rfl,rfl,True.intro⟩;refine W.set_plain I.bF J c.sa (nF (s:={ s with toks:=s.toks+1 }) I.bF J c n ?_);obtain⟨cd,hc,hd'⟩:=W.any_some c.hd;refine ap (bd (ap (ap (wpAny_loadPart ho (ap (W.Looks.here (s:={ s with toks:=s.toks+1 }) (W.looks_clsIn I.bF hc) ?_))))));rw[hd'];have hlt:=ul ho;have hxs:a≠s.heap.objs.size:=re hlt;have ho1:(s.heap.push { cls:=.type "dict",data:=.dict #[] }).get? a=some { cls:=.ref C,dict:=none,data:=.fields vs }:=u8 _ ho;refine ap (wpAny_alloc' ?_);refine ap (wpAny_update' ho1 ?_);refine bd ?_;have hgd:((s.heap.push { cls:=.type "dict",data:=.dict #[] }).update a λo=>{ o with dict:=some s.heap.objs.size }).get? s.heap.objs.size=some { cls:=.type "dict",data:=.dict #[] }:=
  (Heap.get?_update_ne _ _ _ _ hxs.symm).trans (Heap.get?_push_at rfl rfl)
 have hga:((s.heap.push { cls:=.type "dict",data:=.dict #[] }).update a λo=>{ o with dict:=some s.heap.objs.size }).get? a=some { cls:=.ref C,dict:=some s.heap.objs.size,data:=.fields vs }:=
  Heap.get?_update_self _ ho1 rfl
 have hnd:((s.heap.push { cls:=.type "dict",data:=.dict #[] }).update a λo=>{ o with dict:=some s.heap.objs.size }).Ns s.heap.objs.size (λ_=>none):=
  ⟨_,#[],_,hgd,rfl,λe he=>absurd he (by simp),λ_=>rfl⟩
 show wpAny _ _ (storeInDict s.heap.objs.size (.str f _) f u) _ _ _;unfold storeInDict newKeyGuard;refine ap (bd (ap (wpAny_nsSet1 (Heap.Ns1.of_empty hnd) λh' hn2 hs2=>?_)));obtain⟨oD,esD,epD,hoD,hdD,hcD⟩:=hn2.count (PySem.Within.cons f u PySem.Within.nil);refine ap (wpAny_lookBehind hoD (by rw[hdD];exact pastItsLine_dict (Nat.le_trans hcD (by rw[length_cons,length_nil,sizeLine_eq];omega))) ?_);have hd0:H s.heap.objs.size=none:=I.hok.fresh (s0 _);refine bd (h s.heap.objs.size _ hd0 ?_);have e':upd H s.heap.objs.size (.own a) a=some (.exc C none [] fr):=by rw[af hxs];exact e
 have I1:Inv X Y U (upd H s.heap.objs.size (.own a)) { s with heap:=s.heap.push { cls:=.type "dict",data:=.dict #[] },toks:=s.toks+1 }:=
  I.laid (a:=s.heap.objs.size) (o:=.own a) (t':=s.toks+1) (λb u q=>u8 _ q) (s0 _) ⟨_,ut s.heap rfl⟩
 have I2:=I1.write (x:=a) (e:=a) (o:=.exc C (some s.heap.objs.size) [] fr) (t':=s.toks+1) (h':=(s.heap.push { cls:=.type "dict",data:=.dict #[] }).update a λo=>{ o with dict:=some s.heap.objs.size })
  (by rw[e'];exact True.intro) (.inl rfl) (λb q hb z=>(Heap.get?_update_ne _ _ _ _ hb).trans z) ⟨_,hga⟩
  ⟨⟨vs,hga,zz⟩,.inr ⟨_,rfl,by rw[af hxs.symm,aA],Nat.zero_le _,hxs.symm,_,Heap.Ns1.of_empty hnd,λ_=>True.intro,λy hy=>absurd rfl hy⟩⟩
 have ga':h'.get? a=some { cls:=.ref C,dict:=some s.heap.objs.size,data:=.fields vs }:=(hs2.2 a hxs).trans hga;have I3:=I2.write (x:=a) (e:=s.heap.objs.size) (o:=.exc C (some s.heap.objs.size) [(f,y)] fr) (t':=s.toks+1+1) (h':=h') (by rw[aA];exact True.intro) (.inr (by rw[af hxs.symm,aA]))
  (λb q hb z=>(hs2.2 b hb).trans z) ⟨oD,hoD⟩
  ⟨⟨vs,ga',zz⟩,.inr ⟨_,rfl,by rw[af hxs.symm,af hxs.symm,aA],by show 1<=1000;decide,hxs.symm,_,hn2,λg=>?_,λg hg=>?_⟩⟩
 .rw[xQ]at I3;exact I3
 .show cI (List.lookup g [(f,y)]) (if g=f then some u else none)
  by_cases q:g=f
  .have hb:(g ==f)=true:=beq_iff_eq.mpr q;simp only[List.lookup,hb,if_pos q];exact ry
  .have hb:(g ==f)=false:=beq_eq_false_iff_ne.mpr q;simp only[List.lookup,hb,if_neg q];exact True.intro
 .by_cases q:g=f
  .rw[q];simp
  .exact absurd (show(if g=f then some u else none)=none by rw[if_neg q]) hg
end
section
variable {X:Cx}{Y:HD}{U:St}{H:Hp}{s:Shared}{a C:Addr}{dx:Option Addr}{fs:List (Str×V)}{f:Str}{v:V}{A:Around}{E:HC}{fr:Bool}
def Inv.fields {vs':Array Value}{h':Heap}{t':Nat}(I:Inv X Y U H s)(e:H a=some (.exc C dx fs fr))(hs:vs'.size=6)(h1:fr=true->vs'[1]? =some Value.none)
  (ha:h'.get? a=some { cls:=.ref C,dict:=dx,data:=.fields vs' }) (k:∀ b u,b≠a->s.heap.get? b=some u->h'.get? b=some u):Inv X Y U H { s with heap:=h',toks:=t' }:=by
 have I2:=I.write (x:=a) (e:=a) (o:=.exc C dx fs fr) (t':=t') (h':=h') (by rw[e];exact True.intro) (.inl rfl) k ⟨_,ha⟩ ?_
 .have:upd H a (.exc C dx fs fr)=H:=by
   funext b
   by_cases hb:b=a
   .rw[hb,aA,e]
   .rw[af hb]
  rw[this]at I2;exact I2
 .obtain⟨_,z⟩:=id (I.hok a _ e);refine⟨⟨vs',ha,hs,h1⟩,?_⟩;rcases z with z|⟨d,ed,d1,z1,ne,mA,⟨od,es,ep,e2,c⟩,r⟩
  .exact .inl z
  .exact .inr ⟨d,ed,by rw[af ne];exact d1,z1,ne,mA,⟨od,es,ep,k _ _ ne e2,c⟩,r⟩
def i4 {R:Result->Shared->Prop}(I:Inv X Y U H s)(e:H a=some (.exc C dx fs fr))(c:bY X.K C)
  (h:∀ s',Inv X Y U H s'->R (.ok (.ret .none)) s'):codeAny (model X.prog X.w) A (.call (.builtin "ValueError.__init__") ⟨[.ref a,u],[]⟩) R s:=by
 have F:=PySem.F.excCall_ValueError;obtain⟨⟨vs,ho,hsz,h1⟩,z⟩:=id (I.hok a _ e);have L4:Looks (model X.prog X.w) s.heap (isInstance (.ref a) (.type "ValueError")) true:=(show Looks (model X.prog X.w) s.heap (typeOf (.ref a)) (.ref C) from(Looks.ld ho).andThen .now).andThen (looks_mroIn I.bF (c.sub (by decide+kernel)));refine codeAny_call_builtin F.init.plain F.initEntry ?_;simp only[checkBuiltinCall,F.initKind,F.initSplit,F.initRow];refine ap (L4.here ?_);simp only[Bool.not_true,Bool.false_eq_true,if_false];have hshort:("ValueError" != "*")=true:=by decide
 have h0:∃ a0,vs[0]? =some a0:=⟨_,Array.getElem?_eq_getElem nofun⟩;obtain⟨a0,h0⟩:=h0;obtain⟨hp,g,d,t,os⟩:=s;unfold Bind.checkArgs;have hn:Looks (model X.prog X.w) hp (typeOf (.ref a)) (.ref C):=(Looks.ld ho).andThen .now;obtain⟨cd,rs,hcl,_⟩:=c.mro;obtain⟨oc,od,sl,hC⟩:∃ oc od sl,hp.get? C=some ⟨oc,od,.cls cd,sl⟩:=by
  unfold W.clsIn at hcl
  split at hcl
  .rename_i ho';cases hcl;exact⟨_,_,_,I.bF _ _ ho'⟩
  .cases hcl
 repeat(first|with_reducible refine wpAny_load hC ?_|wp_step)
 rw[h0];have ho1:(hp.push { cls:=.type "tuple",data:=.seq #[u] }).get? a=some { cls:=.ref C,dict:=dx,data:=.fields vs }:=u8 _ ho;have hq:=Heap.get?_update_self (Obj.mapFields (·.setIfInBounds 0 (.ref hp.objs.size))) ho1 (Obj.isFreed_of_fields (Obj.data_mapFields rfl _));have fin:R (.ok (.ret Value.none)) ⟨(hp.push { cls:=.type "tuple",data:=.seq #[u] }).update a (Obj.mapFields (·.setIfInBounds 0 (.ref hp.objs.size))),g,d,t,os⟩:=by
  refine h _ (I.fields (vs':=vs.setIfInBounds 0 (.ref hp.objs.size)) (t':=t) e (by simpa using hsz) (λz=>?_) hq λb q hb z'=>?_)
  .rw[Array.getElem?_setIfInBounds_ne (by decide)];exact h1 z
  .exact(Heap.get?_update_ne _ _ _ _ hb).trans (u8 _ z')
 refine bd (ap (wpAny_setField ho1 rfl nofun ?_));cases a0<;>first|exact bd (bd fin)|exact wpAny_letGo (bd fin)
def pL (I:Inv X Y U H s)(e:H a=some (.exc C dx fs fr))(c:bY X.K C)
  (h:∀ s',Inv X Y U H s'->Q .none s'):wpAny (model X.prog X.w) A (call (.builtin "ValueError.__init__") [.ref a,u]) Q E s:=wpAny_call (i4 I e c h)
end
abbrev bG (K:W.Frag)(C:Addr):Bool:=match K.lookup C with
 |some ⟨_,_,.cls cd,sl⟩=>!cd.abstract&& !cd.hasDel&&(sl.toList[4]?).join ==some (.builtin "ValueError.__new__")&&cY cd.mro&&cd.mro.contains (.ref C)&&
   W.specialIn K (.ref C) "__call__" ==some (some (.builtin "type.__call__"))&&W.instIn K (.ref C) (.type "type") ==some true
 |_=>false
structure vG (M:Model) (h:Heap) (C:Addr):Prop where
 obj:∃ oc od cd sl,h.get? C=some ⟨oc,od,.cls cd,sl⟩/\cd.abstract=false/\cd.hasDel=false/\cd.mro.isEmpty=false
 made:W.Looks M h (Bind.madeBy (.ref C)) (some "ValueError.__new__")
 base:W.Looks M h (Bind.staticBase (.ref C)) (.ref C)
 self:W.Looks M h (isSubtype (.ref C) (.ref C)) true
 top:W.Looks M h (isSubtype (.ref C) (.type "ValueError")) true
 no1:W.Looks M h (isSubtype (.ref C) (.type "AttributeError")) false
 no2:W.Looks M h (isSubtype (.ref C) (.type "NameError")) false
 call:W.Looks M h (specialOf (.ref C) "__call__") (some (.builtin "type.__call__"))
 typ:W.Looks M h (isInstance (.ref C) (.type "type")) true
def qN {n:String}(h:bE.contains (.type n)=false):(rs.map Value.ref++bE).contains (.type n)=false:=by
 induction rs with
 |nil=>exact h
 |cons a r ih=>rw[map_cons,cons_append,List.contains_cons,ih];rfl
def jP {K:W.Frag}{M:Model}{h:Heap}(X:K.In h){C:Addr}(e:bG K C=true):vG M h C:=by
 unfold bG at e
 split at e
 .rename_i oc od cd sl ho;simp only[nb,Bool.not_eq_true',beq_iff_eq]at e;obtain⟨⟨⟨⟨⟨⟨e1,e2⟩,e3⟩,e4⟩,e5⟩,e7⟩,e8⟩:=e;obtain⟨rs,em⟩:=cU e4;have hc:W.clsIn K C=some cd:=by unfold W.clsIn;rw[ho]
  have hm:Looks M h (mroOf (.ref C)) cd.mro:=(looks_clsIn X hc).andThen .now;have ne:cd.mro.isEmpty=false:=by rw[em];exact qZ
  obtain⟨c,l,hl⟩:∃ c l,cd.mro=c::l:=by
   cases q:cd.mro with
   |nil=>rw[q]at ne;cases ne
   |cons c l=>exact⟨c,l,rfl⟩
  have made:Looks M h (Bind.madeBy (.ref C)) (some "ValueError.__new__"):=by
   intro A Q E s k q;unfold Bind.madeBy;refine ap (hm A _ E s k ?_);rw[hl,forIn_cons];refine ap (ap (ap (ap (wpAny_loadPart (k _ _ (X _ _ ho)) (bd ?_)))));dsimp only;rw[<-Array.getElem?_toList,e3];exact bd (bd (bd q))
  have mro:∀ {v b},cd.mro.contains v=b->W.mroIn K C v=some b:=λ{v b} q=>by
   unfold W.mroIn;rw[hc,Option.bind_some,if_neg (by rw[ne];decide),q]
  refine⟨⟨oc,od,cd,sl,X _ _ ho,e1,e2,ne⟩,made,?_,looks_mroIn X (mro e5),looks_mroIn X (mro (by rw[em];exact mV (by decide+kernel))),looks_mroIn X (mro (by rw[em];exact qN (by decide+kernel))),looks_mroIn X (mro (by rw[em];exact qN (by decide+kernel))),looks_specialIn X e7,looks_instIn X e8⟩;intro A Q E s k q;unfold Bind.staticBase;refine ap (hm A _ E s k ?_);rw[hl,forIn_cons];exact ap (ap (ap (made A _ E s k (bd (bd (bd q))))))
 .cases e
variable {rest:List Value}
section
variable {prog:Program}{w:World}{A:Around}{K:W.Frag}{C:Addr}{R:Result->Shared->Prop}{h:Heap}{g:Array GenState}{d:Drawn}{t:Nat}{os:OsState}
def zE (Y:vG (model prog w) h C)(hz:rest.length<=ce)
  (hq:R (.ok (.ret (.ref (h.objs.size+1)))) ⟨(h.push { cls:=.type "tuple",data:=.seq rest.toArray }).push { cls:=.ref C,data:=.fields #[.ref h.objs.size,.none,.none,.none,.bool false,.none] },g,d,t,os⟩):
  codeAny (model prog w) A (.call (.builtin "ValueError.__new__") ⟨.ref C::rest,[]⟩) R ⟨h,g,d,t,os⟩:=by
 obtain⟨⟨oc,od,cd,sl,hC,e1,e2,e4⟩,made,base,self,top,no1,no2,call,typ⟩:=Y;have F:=PySem.F.excBase_ValueError;have here:Looks (model prog w) h (Bind.madeHere "BaseException.__new__" (.ref C)) ():=base.andThen (made.andThen (Looks.of_pure (by simp only[Option.map_some,F.canon,bne_self_eq_false,Bool.false_eq_true,if_false])));refine codeAny_call_builtin_code (Code.quiet_builtin _ F.quiet) ?_;simp only[checkBuiltinCall,F.newKind,F.newSplit,F.newRow]
 repeat(first|simp only[bne_self_eq_false,Bool.false_eq_true,if_false]|lk)
 refine codeAny_builtinAt F.entry ?_;unfold Builtin.«BaseException.__new__»;refine PySem.wpAt_bind ?_;show PySem.wpAt _ _ _ (stack >>= _) _ _ _;refine PySem.wpAt_bind (PySem.wpAt_stack λp below=>PySem.wpAt_of_wpAny ?_);have hends:=F.ends
 wp_walk
 refine PySem.wpAt_of_wpAny ?_;rw[F.owner]
 repeat(first|simp only[Bool.not_true,Bool.false_eq_true,if_false]|lk)
 rw[if_neg (show ¬ (rest.toArray.size>ce) by rw[io];omega)];unfold newObjAsIs;refine ap (wpAny_alloc (bd (ap ?_)));show wpAny _ _ (newObjAsIs _ _ _) _ _ _;unfold newObjAsIs classHasDel;refine ap (wpAny_alloc (ap (ap (wpAny_load (u8 _ (u8 _ hC)) (bd ?_)))));rw[e2];refine bd (bd ?_);show R _ _;rw[Heap.size_push];exact hq
def Bo {fI:Addr}(X:K.In h)(hz:rest.length<=ce)(hm:bG K C=true)(hi:W.findIn K (.ref C) "__init__"=some (some (.ref fI))) (hf:W.typeIn K (.ref fI)=some (.type "function"))
  (hq:codeAny (model prog w) (A.under (.builtin "type.__call__" ⟨.ref C::rest,[]⟩)) (.call (.ref fI) ⟨.ref (h.objs.size+1)::rest,[]⟩) (InitBack (h.objs.size+1) R)
   ⟨(h.push { cls:=.type "tuple",data:=.seq rest.toArray }).push { cls:=.ref C,data:=.fields #[.ref h.objs.size,.none,.none,.none,.bool false,.none] },g,d,t,os⟩):
  codeAny (model prog w) A (.call (.ref C) ⟨rest,[]⟩) R ⟨h,g,d,t,os⟩:=by
 have Y:=jP (M:=model prog w) X hm;have Y':=Y;obtain⟨⟨oc,od,cd,sl,hC,e1,e2,e4⟩,made,base,self,top,no1,no2,call,typ⟩:=Y;refine codeAny_of_tree ?_;show wpAny _ _ (callAny (.ref C) _) _ _ _;refine nd_load hC ?_;show wpAny _ _ (callAny.viaDunder (.ref C) _) _ _ _;unfold callAny.viaDunder;refine ap (call.at ?_);dsimp only;rw[tc_bind];refine ap (bd (ap (bd ?_)));refine bd (a:=Fin.again (.call (.builtin "type.__call__") ⟨.ref C::rest,[]⟩)) (And.intro rfl ?_);refine codeAny_call_builtin_at (Code.quiet_builtin _ (by decide+kernel)) entry_typeCall (check_slot tc_kind tc_split typ (tc_args _ _ _) ?_);unfold Builtin.«type.__call__»;have hmr:Looks (model prog w) h (mroOf (.ref C)) cd.mro:=((Looks.ld (part:=none) hC).andThen .now).andThen .now
 repeat(first|simp only[e4,Bool.false_eq_true,if_false]|with_reducible refine wpAny_call ?_|lk)
 refine zE Y' hz ?_;have k:∀ b o,h.get? b=some o->((h.push { cls:=.type "tuple",data:=.seq rest.toArray }).push { cls:=.ref C,data:=.fields #[.ref h.objs.size,.none,.none,.none,.bool false,.none] }).get? b=some o:=λb o e=>u8 _ (u8 _ e)
 have hx:((h.push { cls:=.type "tuple",data:=.seq rest.toArray }).push { cls:=.ref C,data:=.fields #[.ref h.objs.size,.none,.none,.none,.bool false,.none] }).get? (h.objs.size+1)=some { cls:=.ref C,data:=.fields #[.ref h.objs.size,.none,.none,.none,.bool false,.none] }:=by heap_get
 have t1:Looks (model prog w) ((h.push { cls:=.type "tuple",data:=.seq rest.toArray }).push { cls:=.ref C,data:=.fields #[.ref h.objs.size,.none,.none,.none,.bool false,.none] }) (typeOf (.ref (h.objs.size+1))) (.ref C):=(Looks.ld hx).andThen .now;have s1:=self.keeps k;have i1:=(looks_findIn (M:=model prog w) X hi).keeps k;have b1:=(bind_fn (M:=model prog w) X (.ref (h.objs.size+1)) hf).keeps k;unfold isInstance callSpecial? specialOf
 repeat(first|with_reducible refine wpAny_call ?_|lk)
 refine codeAny_mono hq λr s' z=>?_
 rcases r with e|(v|_|_|_)<;>first|exact z|exact z.elim|skip
 obtain⟨rfl,z⟩:=z;exact bd (bd z)
def xA (X:K.In h)(hz:rest.length<=ce)(hm:bG K C=true)(hi:W.findIn K (.ref C) "__init__"=some (some (.builtin "ValueError.__init__")))
  (hq:codeAny (model prog w) (A.under (.builtin "type.__call__" ⟨.ref C::rest,[]⟩)) (.call (.builtin "ValueError.__init__") ⟨.ref (h.objs.size+1)::rest,[]⟩) (InitBack (h.objs.size+1) R)
   ⟨(h.push { cls:=.type "tuple",data:=.seq rest.toArray }).push { cls:=.ref C,data:=.fields #[.ref h.objs.size,.none,.none,.none,.bool false,.none] },g,d,t,os⟩):
  codeAny (model prog w) A (.call (.ref C) ⟨rest,[]⟩) R ⟨h,g,d,t,os⟩:=by
 have Y:=jP (M:=model prog w) X hm;have Y':=Y;obtain⟨⟨oc,od,cd,sl,hC,e1,e2,e4⟩,made,base,self,top,no1,no2,call,typ⟩:=Y;refine codeAny_of_tree ?_;show wpAny _ _ (callAny (.ref C) _) _ _ _;refine nd_load hC ?_;show wpAny _ _ (callAny.viaDunder (.ref C) _) _ _ _;unfold callAny.viaDunder;refine ap (call.at ?_);dsimp only;rw[tc_bind];refine ap (bd (ap (bd ?_)));refine bd (a:=Fin.again (.call (.builtin "type.__call__") ⟨.ref C::rest,[]⟩)) (And.intro rfl ?_);refine codeAny_call_builtin_at (Code.quiet_builtin _ (by decide+kernel)) entry_typeCall (check_slot tc_kind tc_split typ (tc_args _ _ _) ?_);unfold Builtin.«type.__call__»;have hmr:Looks (model prog w) h (mroOf (.ref C)) cd.mro:=((Looks.ld (part:=none) hC).andThen .now).andThen .now
 repeat(first|simp only[e4,Bool.false_eq_true,if_false]|with_reducible refine wpAny_call ?_|lk)
 refine zE Y' hz ?_;have k:∀ b o,h.get? b=some o->((h.push { cls:=.type "tuple",data:=.seq rest.toArray }).push { cls:=.ref C,data:=.fields #[.ref h.objs.size,.none,.none,.none,.bool false,.none] }).get? b=some o:=λb o e=>u8 _ (u8 _ e)
 have hx:((h.push { cls:=.type "tuple",data:=.seq rest.toArray }).push { cls:=.ref C,data:=.fields #[.ref h.objs.size,.none,.none,.none,.bool false,.none] }).get? (h.objs.size+1)=some { cls:=.ref C,data:=.fields #[.ref h.objs.size,.none,.none,.none,.bool false,.none] }:=by heap_get
 have t1:Looks (model prog w) ((h.push { cls:=.type "tuple",data:=.seq rest.toArray }).push { cls:=.ref C,data:=.fields #[.ref h.objs.size,.none,.none,.none,.bool false,.none] }) (typeOf (.ref (h.objs.size+1))) (.ref C):=(Looks.ld hx).andThen .now;have s1:=self.keeps k;have i1:=(looks_findIn (M:=model prog w) X hi).keeps k;have b1:Looks (model prog w) ((h.push { cls:=.type "tuple",data:=.seq rest.toArray }).push { cls:=.ref C,data:=.fields #[.ref h.objs.size,.none,.none,.none,.bool false,.none] }) (bindSpecial (.builtin "ValueError.__init__") (.ref (h.objs.size+1))) (.builtin "ValueError.__init__",[.ref (h.objs.size+1)]):=Looks.of_pure (PySem.F.excCall_ValueError.init.bind _);unfold isInstance callSpecial? specialOf
 repeat(first|with_reducible refine wpAny_call ?_|lk)
 refine codeAny_mono hq λr s' z=>?_
 rcases r with e|(v|_|_|_)<;>first|exact z|exact z.elim|skip
 obtain⟨rfl,z⟩:=z;exact bd (bd z)
end
end L2
namespace L2
open PySem PySem.Spec PySem.W PyProof.Rows
abbrev bb (e:Addr)(h h':Heap):Prop:=∀ oe vs,h.get? e=some oe->oe.data=.fields vs->∃ vs',h'.get? e=some { oe with data:=.fields vs' }/\vs'.size=vs.size
abbrev AI (as:List Addr)(h h':Heap):Prop:=∀ b o,b ∉ as->h.get? b=some o->h'.get? b=some o
abbrev tF (h:Heap)(e T:Addr)(fl:Value):Prop:=∃ oe vs oT ts,h.get? e=some oe/\oe.data=.fields vs/\vs[1]? =some (.ref T)/\T≠e/\h.get? T=some oT/\oT.data=.fields ts/\ts[3]? =some fl
def bb.trans {e:Addr}{h h1 h2:Heap}(a:bb e h h1)(b:bb e h1 h2):bb e h h2:=λoe vs x y=>by
 obtain⟨vs1,x1,z1⟩:=a oe vs x y;obtain⟨vs2,x2,z2⟩:=b _ vs1 x1 rfl;exact⟨vs2,x2,z2.trans z1⟩
def bb.same {e:Addr}{h h':Heap}(k:h'.get? e=h.get? e):bb e h h':=λoe vs x y=>⟨vs,by rw[k,x,<-y],rfl⟩
variable {Q:HB}
section
variable {M:Model}{A:Around}{E:HC}{s:Shared}{base:Heap}{env:Env}{outer:List Env}{L e:Addr}
def j9 {oe:Obj}{vs:Array Value}{head:Value}{hadNext:Bool}(hfr:A.frames=some (env::outer))(hl:s.heap.FunFrames base (env::outer))(hf:env.frame=some L)
  (he:s.heap.get? e=some oe) (hd:oe.data=.fields vs) (hsz:1<vs.size)
  (q:∀ h' T,s.heap.objs.size<=T->tF h' e T (rawInt L)->bb e s.heap h'->(∀ b o,b≠e->s.heap.get? b=some o->∃ sl,h'.get? b=some { o with slots:=sl })->AI (e::k6 (env::outer)) s.heap h'->Q () { s with heap:=h' }):
  wpAny M A (do let a <-frameOf env;let pl <-entryPlaceOf L hadNext;let b <-EntryCells.newEntry head a .none (rawInt L) .none pl;setField (.ref e) 1 b) Q E s:=by
 have hne:e ∉ k6 (env::outer):=λhm=>by
  obtain⟨_,o,ho,hnf⟩:=hl.mem hm;rw[he]at ho;cases ho;exact hnf vs hd
 refine ap (wpAny_frameOf_fun hfr hl hf λh1 s1=>ap (wpAny_entryPlaceOf λpl hpl=>?_));unfold EntryCells.newEntry newFields;refine ap (wpAny_newObj_type ?_ (hpl.sizeOk5 _ _ _ _ _));have e1:h1.get? e=some oe:=(s1.2.1 e hne).trans he;have e2:=u8 (h:=h1) { cls:=.type "traceback",dict:=none,data:=.fields ([head,.ref L,.none,rawInt L,.none]++(if pl.isEmpty then sK 6 Value.none else pl)).toArray } e1;have hTe:h1.objs.size≠e:=Nat.ne_of_gt (ul e1);have d3:=Obj.data_mapFields hd (·.setIfInBounds 1 (Value.ref h1.objs.size));have e3:=Heap.get?_update_self (Obj.mapFields (·.setIfInBounds 1 (Value.ref h1.objs.size))) e2 (Obj.isFreed_of_fields d3);have t3:=(Heap.get?_update_other (h1.push { cls:=.type "traceback",dict:=none,data:=.fields ([head,.ref L,.none,rawInt L,.none]++(if pl.isEmpty then sK 6 Value.none else pl)).toArray })
  (Obj.mapFields (·.setIfInBounds 1 (Value.ref h1.objs.size))) (Ne.symm hTe)).trans (ut h1 rfl)
 have keep:∀ b o,b≠e->h1.get? b=some o->((h1.push { cls:=.type "traceback",dict:=none,data:=.fields ([head,.ref L,.none,rawInt L,.none]++(if pl.isEmpty then sK 6 Value.none else pl)).toArray }).update e (Obj.mapFields (·.setIfInBounds 1 (Value.ref h1.objs.size)))).get? b=some o:=
  λb o hb hq=>(Heap.get?_update_other _ _ (Ne.symm hb)).trans (u8 _ hq)
 refine wpAny_setField e2 hd hsz (q _ h1.objs.size ?_ ?_ ?_ (λb o hb ho=>?_) λb o hb ho=>?_)
 .rw[s1.1];exact s0 _
 .refine⟨_,_,_,_,e3,d3,by simp[hsz],hTe,t3,rfl,?_⟩
  first|(simp;done)|(rcases hpl with rfl|⟨_,_,_,_,_,_,_,rfl⟩<;>simp)
 .intro oe' vs' x y;rw[he]at x;cases x;rw[hd]at y;cases y;refine⟨vs.setIfInBounds 1 (.ref h1.objs.size),?_,by simp⟩;rw[e3];obtain⟨c0,d0,dt,sl0⟩:=oe;cases hd
  rfl
 .obtain⟨sl,z⟩:=s1.2.2 b o ho;exact⟨sl,keep b _ hb z⟩
 .exact keep b o (λz=>hb (by rw[z];exact lw)) ((s1.2.1 b λz=>hb (f8 _ z)).trans ho)
abbrev vf (n₀:Nat)(ps:HD)(H:Hp)(h:Heap)(e:Addr):Prop:=(∃ oe vs,h.get? e=some oe/\oe.data=.fields vs/\vs[1]? =some Value.none)\/∃ T,n₀<=T/\H T=none/\(∀ p ∈ ps,p.1≠T)/\∃ fl,tF h e T fl
def xG {n₀:Nat}{ps:HD}{H:Hp}(hfr:A.frames=some (env::outer))(hl:s.heap.FunFrames base (env::outer))(hf:env.frame=some L)(sf:(∃ oe vs,s.heap.get? e=some oe/\oe.data=.fields vs/\vs[1]? =some Value.none)\/∃ T,n₀<=T/\H T=none/\(∀ p ∈ ps,p.1≠T)/\∃ fl,(fl ==rawInt L)=false/\tF s.heap e T fl) (h0:n₀<=s.heap.objs.size) (hps:∀ p ∈ ps,p.1<s.heap.objs.size)
  (q:∀ h' T T0,s.heap.objs.size<=T->n₀<=T0->(H T0=none\/s.heap.objs.size<=T0)->(∀ p ∈ ps,p.1≠T0)->(∀ o,s.heap.get? T0=some o->∃ ts,o.data=.fields ts)->tF h' e T (rawInt L)->bb e s.heap h'->h'.FunFrames base (env::outer)->(∀ b o,b≠e->b≠T0->s.heap.get? b=some o->∃ sl,h'.get? b=some { o with slots:=sl })->AI (e::T0::k6 (env::outer)) s.heap h'->(∀ b o,s.heap.get? b=some o->∃ o',h'.get? b=some o')->Q () { s with heap:=h' }):
  wpAny M A (noteFrame (.ref e) env) Q E s:=by
 have fun_of:∀ {h':Heap}{as:List Addr},(∀ b ∈ as,∀ o,s.heap.get? b=some o->∃ vs,o.data=.fields vs)->(∀ b o,b ∉ as->s.heap.get? b=some o->∃ sl,h'.get? b=some { o with slots:=sl })->h'.FunFrames base (env::outer):=
  λ{h' as} ha k=>hl.of_keeps λb o ho hnf=>by
   by_cases hb:b ∈ as
   .obtain⟨vs,z⟩:=ha b hb o ho;exact absurd z (hnf vs)
   .obtain⟨sl,z⟩:=k b o hb ho;exact⟨_,z,rfl⟩
 unfold noteFrame;simp only[hf];rcases sf with⟨oe,vs,he,hd,h1⟩|⟨T0,hT0,hH0,hp0,fl,hfl,oe,vs,oT,ts,he,hd,h1,hTe,hT,hdT,h3⟩
 .skip
  refine ap (bi he hd h1 ?_);rw[if_neg (by decide)];refine j9 hfr hl hf he hd (Array.getElem?_eq_some_iff.mp h1).1 λh' T hT st fo sl sy=>?_
  refine q h' T s.heap.objs.size hT h0 (.inr (s0 _)) (λp hp=>re (hps p hp)) (λo z=>absurd (ul z) (Nat.lt_irrefl _)) st fo ?_ (λb o hb _ ho=>sl b o hb ho) (λb o hb ho=>sy b o (λz=>hb ?_) ho) λb o ho=>?_
  .refine fun_of (as:=[e]) (λb hb o ho=>?_) λb o hb ho=>sl b o (by simpa using hb) ho
   obtain rfl:b=e:=by simpa using hb
   rw[he]at ho;cases ho;exact⟨vs,hd⟩
  .rcases mo.mp z with z|z
   .exact mo.mpr (.inl z)
   .exact f8 _ (f8 _ z)
  .by_cases hb:b=e
   .subst hb;rw[he]at ho;cases ho;obtain⟨vs',z,_⟩:=fo _ _ he hd;exact⟨_,z⟩
   .obtain⟨sl',z⟩:=sl b o hb ho;exact⟨_,z⟩
 .refine ap (bi he hd h1 ?_);rw[if_pos (show(Value.ref T0 != Value.none)=true from by simp)];refine ap (bi hT hdT h3 ?_);rw[if_neg (by rw[hfl];exact Bool.false_ne_true)];refine ap (wpAny_setField hT hdT (Array.getElem?_eq_some_iff.mp h3).1 ?_);have other:∀ b,b≠T0->(s.heap.update T0 (Obj.mapFields (·.setIfInBounds 3 Value.none))).get? b=s.heap.get? b:=λb hb=>Heap.get?_update_other _ _ (Ne.symm hb)
  have self':=Heap.get?_update_self (Obj.mapFields (·.setIfInBounds 3 Value.none)) hT (Obj.isFreed_of_fields (Obj.data_mapFields hdT _));have rec':∀ b o,s.heap.get? b=some o->(∀ vs,o.data≠.fields vs)->b≠T0:=λb o hb hnf z=>by
   rw[z,hT]at hb;cases hb;exact hnf ts hdT
  refine j9 (base:=base) hfr (hl.of_keeps λb o hb hnf=>⟨o,(other b (rec' b o hb hnf)).trans hb,rfl⟩) hf ((other e (Ne.symm hTe)).trans he) hd (Array.getElem?_eq_some_iff.mp h1).1 λh' T hTn st fo sl sy=>?_
  have hTn':s.heap.objs.size<=T:=by
   have z:(s.heap.update T0 (Obj.mapFields (·.setIfInBounds 3 Value.none))).objs.size<=T:=hTn
   rwa [Heap.size_after_update]at z
  refine q h' T T0 hTn' hT0 (.inl hH0) hp0 (λo z=>by rw[hT]at z;cases z;exact⟨ts,hdT⟩) st (bb.trans (bb.same (other e (Ne.symm hTe))) fo) ?_ (λb o hb hb0 ho=>sl b o hb ((other b hb0).trans ho)) (λb o hb ho=>?_) λb o ho=>?_
  .refine fun_of (as:=[e,T0]) (λb hb o ho=>?_) λb o hb ho=>sl b o (λz=>hb (by simp[z])) ((other b λz=>hb (by simp[z])).trans ho)
   rcases mo.mp hb with hb|hb
   .subst hb;rw[he]at ho;cases ho;exact⟨vs,hd⟩
   .obtain rfl:b=T0:=by simpa using hb
    rw[hT]at ho;cases ho;exact⟨ts,hdT⟩
  .have n1:b≠e:=λz=>hb (by simp[z])
   have n2:b≠T0:=λz=>hb (by simp[z])
   refine sy b o (λz=>hb ?_) ((other b n2).trans ho);rcases mo.mp z with z|z
   .exact mo.mpr (.inl z)
   .exact f8 _ (f8 _ z)
  .by_cases hb:b=e
   .subst hb;obtain⟨vs',z,_⟩:=fo _ _ ((other b (Ne.symm hTe)).trans he) hd;exact⟨_,z⟩
   .by_cases hb0:b=T0
    .subst hb0;obtain⟨sl',z⟩:=sl b _ hb self';exact⟨_,z⟩
    .obtain⟨sl',z⟩:=sl b o hb ((other b hb0).trans ho);exact⟨_,z⟩
def qG {T:Addr}{fl:Value}(st:tF s.heap e T fl)
  (q:∀ h',tF h' e T .none->(∀ b,b≠T->h'.get? b=s.heap.get? b)->(∃ o,s.heap.get? T=some o)->(∃ o,h'.get? T=some o)->(∃ oT ts,h'.get? T=some oT/\oT.data=.fields ts)->Q () { s with heap:=h' }):wpAny M A (setFlight (.ref e) none) Q E s:=by
 obtain⟨oe,vs,oT,ts,he,hd,h1,hTe,hT,hdT,h3⟩:=st;have hz:3<ts.size:=(Array.getElem?_eq_some_iff.mp h3).1;have other:∀ b,b≠T->(s.heap.update T (Obj.mapFields (·.setIfInBounds 3 ((none:Option Addr).elim Value.none λf=>rawInt f)))).get? b=s.heap.get? b:=λb hb=>Heap.get?_update_other _ _ (Ne.symm hb)
 have self':=Heap.get?_update_self (Obj.mapFields (·.setIfInBounds 3 ((none:Option Addr).elim Value.none λf=>rawInt f))) hT (Obj.isFreed_of_fields (Obj.data_mapFields hdT _));unfold setFlight;refine ap (bi he hd h1 ?_);rw[if_pos (show(Value.ref T != Value.none)=true from by simp)];refine wpAny_setField hT hdT hz (q _ ⟨oe,vs,_,_,(other e (Ne.symm hTe)).trans he,hd,h1,hTe,self',Obj.data_mapFields hdT _,by simp[hz]⟩ other ⟨_,hT⟩ ⟨_,self'⟩ ⟨_,_,self',Obj.data_mapFields hdT _⟩)
end
variable {A:Around}
section
variable {X:Cx}{U:St}{H:Hp}{s:Shared}{e C:Addr}{dx:Option Addr}{fs:List (Str×V)}{h':Heap}
def Inv.nV {Y:HD}(I:Inv X Y U H s):Inv X [] U H s:=I.lr λ_ z=>absurd z (by simp)
def Inv.Dy {T0:Addr}{as:List Addr}(I:Inv X [] U H s)(hpn:∀ p ∈ X.pn,p.1≠T0) (he:H e=some (.exc C dx fs false)) (has:as=k6 X.stack)
  (hT:X.s₀.heap.objs.size<=T0) (hT0:H T0=none\/s.heap.objs.size<=T0) (hTd:∀ o,s.heap.get? T0=some o->∃ ts,o.data=.fields ts)
  (fo:bb e s.heap h') (sl:∀ b o,b≠e->b≠T0->s.heap.get? b=some o->∃ sl,h'.get? b=some { o with slots:=sl }) (sy:AI (e::T0::as) s.heap h') (th:∀ b o,s.heap.get? b=some o->∃ o',h'.get? b=some o'):
  Inv X [] U H { s with heap:=h' }:=by
 subst has;obtain⟨⟨vs,ho,hsz,_⟩,z⟩:=id (I.hok e _ he);have hH0:H T0=none:=by
  rcases hT0 with z|z
  .exact z
  .exact I.hok.fresh z
 have nT:∀ {b:Addr}{o:Obj},s.heap.get? b=some o->(∀ vs,o.data≠.fields vs)->b≠T0:=λ{b o} hb hn z=>by
  subst z;obtain⟨ts,q⟩:=hTd _ hb;exact hn ts q
 have d9:∀ b o,H b=none->b≠T0->b ∉ k6 X.stack->s.heap.get? b=some o->h'.get? b=some o:=λb o hb h0 hf hq=>sy b o (λm=>by
  rcases mo.mp m with m|m
  .rw[m,he]at hb;cases hb
  .rcases mo.mp m with m|m
   .exact h0 m
   .exact hf m) hq
 have zH:∀ a u,H a=some u->a≠e->∀ o,s.heap.get? a=some o->h'.get? a=some o:=λa u ha ne o hq=>sy a o (λm=>by
  rcases mo.mp m with m|m
  .exact ne m
  .rcases mo.mp m with m|m
   .rw[m,hH0]at ha;cases ha
   .rw[I.lM a m]at ha;cases ha) hq
 refine I.step (g':=s.gens) (t':=s.toks) (d':=s.drawn) (ch:=[T0]) (h':=h') (λb hb=>?_) (λb o hL hfs hch hq hn=>?_) (λb o hL hfs hch hq hn=>?_) (λb o _ _ hn=>hn) (λb o _ hq=>th b o hq) (λ_ _ q=>q) (λ_ _ _ q=>q) (λb ps q=>⟨#[],by rw[q];simp⟩) (λm hm=>?_) (λa u ha=>?_) I.bare
 .obtain rfl:b=T0:=by simpa using hb
  refine⟨.inr hT,?_,λx c hc z=>?_,λp hp=>hpn p (by simpa using hp)⟩
  .obtain⟨m,⟨o,es,ep,ho',hd,_⟩,_⟩:=I.loc;intro z;exact nT ho' (λvs q=>by rw[hd]at q;cases q) z.symm
  .obtain⟨v,o,ho',hd⟩:=I.cell x c hc;exact nT ho' (λvs q=>by rw[hd]at q;cases q) z
 .refine d9 b o hn (by simpa using hch) (λm=>?_) hq;rcases mo.mp (I.gw b m) with z|z
  .exact hL z
  .exact hfs z
 .exact sl b o (λz=>by rw[z,he]at hn;cases hn) (by simpa using hch) hq
 .obtain⟨o,es,ep,ho',hd,r⟩:=hm;have n1:X.env.locals≠e:=λz=>by have:=I.free;rw[z,he]at this;cases this
  obtain⟨sl',q⟩:=sl _ o n1 (nT ho' λvs q=>by rw[hd]at q;cases q) ho';exact⟨_,es,ep,q,hd,r⟩
 .by_cases hae:a=e
  .subst hae;rw[he]at ha;cases ha;obtain⟨vs',q,hz⟩:=fo _ vs ho rfl;refine⟨⟨vs',q,hz.trans hsz,λy=>by cases y⟩,?_⟩;rcases z with z|⟨d,ed,d1,z1,ne,mA,⟨od,es,ep,e2,c⟩,r⟩
   .exact .inl z
   .exact .inr ⟨d,ed,d1,z1,ne,mA,⟨od,es,ep,zH d _ d1 ne _ e2,c⟩,r⟩
  .refine(I.hok a u ha).d9 (λb o hb hq=>?_) (λ_ q=>q) λ_ _ q=>q
   rcases hb with hb|hb
   .subst hb;exact zH b u ha hae o hq
   .refine zH b _ hb (λz=>?_) o hq;rw[z,he]at hb;cases hb
abbrev vJ (P:Program)(w:World):qd:=λouter H s E u s'=>∃ (e:Addr) (H':Hp) (C:Addr) (dx:Option Addr) (fs:List (Str×V)) (T:Addr),u=.ref e/\s'.os=s.os/\AllBare s'.gens/\Un (k6 outer) [] H H' s.heap s'.heap/\fh P w H' s'.heap/\
 H' e=some (.exc C dx fs false)/\s.heap.objs.size<=T/\H' T=none/\tF s'.heap e T .none/\E e H'
abbrev D6 (X:Cx)(E:St->XK):Prop:=∀ (U:St) (H:Hp) (s:Shared) (e C:Addr) (dx:Option Addr) (fs:List (Str×V)),Inv X [] U H s->vf X.s₀.heap.objs.size X.pn H s.heap e->H e=some (.exc C dx fs false)->E U e H->X.xe (.ref e) s
def jX {E:St->XK}(x:D6 X E):Passes (vJ X.prog X.w) X E:=by
 intro Y U H s u s' I h;obtain⟨e,H',C,dx,fs,T,rfl,os,bare,un,hok,he,hT,hT0,st,q⟩:=h;have J:Inv X [] U H' s':=Inv.pZ (ch:=[]) I.nV os un hok bare (λb z=>absurd z (by simp));exact x U H' s' e C dx fs J (.inr ⟨T,Nat.le_trans I.sz hT,hT0,λp hp=>re (pc (ul (I.pin p (mem_append_left _ hp)).1) hT),_,st⟩) he q
def lp {x:Value}{e1 e2:Env}(h:e1.frame=e2.frame):noteFrame x e1=noteFrame x e2:=by
 unfold noteFrame PySem.frameOf;rw[h]
def Inv.wo {T:Addr}{oT:Obj}{ts:Array Value}(I:Inv X [] U H s)(hT:s.heap.get? T=some oT)(hd:oT.data=.fields ts):T≠X.env.locals/\∀ x c,X.env.cells.lookup x=some c->c≠T:=by
 refine⟨λz=>?_,λx c hc z=>?_⟩
 .obtain⟨m,⟨o,es,ep,ho',hd',_⟩,_⟩:=I.loc;rw[<-z,hT]at ho';cases ho';rw[hd]at hd';cases hd'
 .obtain⟨v,o,ho',hd'⟩:=I.cell x c hc;rw[z,hT]at ho';cases ho';rw[hd]at hd';cases hd'
def mG {M:Model}{E':HC}{env e0:Env}{o0:List Env}{L:Addr}(I:Inv X [] U H s)(hs:X.stack=e0::o0)(hf0:e0.frame=some L)(hf:env.frame=some L)(sf:vf X.s₀.heap.objs.size X.pn H s.heap e)(he:H e=some (.exc C dx fs false))
  (q:∀ h' T,Inv X [] U H { s with heap:=h' }->X.s₀.heap.objs.size<=T->H T=none->(∀ p ∈ X.pn,p.1≠T)->tF h' e T (rawInt L)->Q () { s with heap:=h' }):
  wpAny M X.A (noteFrame (.ref e) env) Q E' s:=by
 rw[lp (e1:=env) (e2:=e0) (hf.trans hf0.symm)];have hl:s.heap.FunFrames X.base (e0::o0):=hs▸I.stack;have go:((∃ oe vs,s.heap.get? e=some oe/\oe.data=.fields vs/\vs[1]? =some Value.none)\/∃ T,X.s₀.heap.objs.size<=T/\H T=none/\(∀ p ∈ X.pn,p.1≠T)/\∃ fl,(fl ==rawInt L)=false/\tF s.heap e T fl)->wpAny M X.A (noteFrame (.ref e) e0) Q E' s:=λsf=>by
  refine xG (by rw[<-hs];exact I.ok.frames) hl hf0 sf I.sz (λp hp=>ul (I.pin p (mem_append_left _ hp)).1) λh1 T T0 hT hT0 hH0 hp0 hTd st fo fF sl sy th=>?_
  exact q h1 T (I.Dy (T0:=T0) (as:=k6 (e0::o0)) (h':=h1) hp0 he (by rw[hs]) hT0 hH0 hTd fo sl sy th) (Nat.le_trans I.sz hT) (I.hok.fresh hT) (λp hp=>re (pc (ul (I.pin p (mem_append_left _ hp)).1) hT)) st
 rcases sf with sf|⟨T,hT,hH,hp,fl,st⟩
 .exact go (.inl sf)
 .cases hfl:(fl ==rawInt L) with
  |false=>exact go (.inr ⟨T,hT,hH,hp,fl,hfl,st⟩)
  |true=>
   obtain rfl:fl=rawInt L:=eq_of_beq hfl;obtain⟨oe,vs,oT,ts,he',hd,h1,hTe,hoT,hdT,h3⟩:=id st;exact wpAny_noteFrame_inFlight hf0 he' hd h1 hoT hdT h3 (q s.heap T I hT hH hp st)
def so {M:Model}{E E':HC}{Q:Shared->Prop}(I:Inv X [] U H s)(hs:X.stack=X.env::X.outer)(hf:X.env.frame=some X.env.locals)(sf:vf X.s₀.heap.objs.size X.pn H s.heap e)(he:H e=some (.exc C dx fs false))
  (q:∀ s' T,Inv X [] U H s'->s'.os=s.os->X.s₀.heap.objs.size<=T->H T=none->(∀ p ∈ X.pn,p.1≠T)->tF s'.heap e T .none->Q s'):
  wpAny M X.A (noteFrame (.ref e) X.env) (λ_ s1=>wpAny M X.A (setFlight (.ref e) none) (λ_ s2=>Q s2) E s1) E' s:=by
 refine mG I hs hf hf sf he λh1 T I1 hT hHT hpT st=>?_
 obtain⟨_,_,oT,ts,_,_,_,_,hoT,hdT,_⟩:=id st;obtain⟨n1,n2⟩:=I1.wo hoT hdT;refine qG (s:={ s with heap:=h1 }) st λh2 oy oth _ th2 rec2=>?_
 exact q _ T (Inv.turned (s:={ s with heap:=h1 }) (it:=T) (h':=h2) (t':=s.toks) I1 (λb o hb hq=>(oth b hb).trans hq) hHT n1 (.inr hT) n2 λp hp=>hpT p (by simpa using hp)) rfl hT hHT hpT oy
def rQ {P:Program}{w:World}{K:W.Frag}{mg:HE}{base:Heap}{N:List Str}{qual:Str}{scope:Scope}{f:Addr}{cd:Value}{outer:List Env}{E:XK}:
  D6 (sM (vJ P w) P w K mg base N qual scope f cd A outer s H E) (λ_=>E):=by
 intro σ' H' s' e C dx fs I sf he q;show wpAny _ _ (do noteFrame (.ref e) _;setFlight (.ref e) none) _ _ s';refine ap (so I rfl rfl sf he λs2 T J os hT hH _ st=>?_);exact⟨e,H',C,dx,fs,T,rfl,J.os,J.bare,J.base,J.hok,he,hT,hH,st,q⟩
end
structure E7 (K:W.Frag) (C f:Addr):Prop where
 mks:bG K C=true
 init:W.findIn K (.ref C) "__init__"=some (some (.ref f))
 fn:W.isFn K (.ref f)=true
 kp:W.keepIn K (.ref C)=true
variable {us:List Value}{vs:List V}
section
variable {X:Cx}{Y:HD}{U:St}{H:Hp}{s:Shared}{C f:Addr}
def Inv.zy (us:List Value)(I:Inv X Y U H s):Inv X Y U (upd H (s.heap.objs.size+1) (.exc C none [] true))
  { s with heap:=(s.heap.push { cls:=.type "tuple",data:=.seq us.toArray }).push { cls:=.ref C,data:=.fields #[.ref s.heap.objs.size,.none,.none,.none,.bool false,.none] } }:=by
 have I1:=I.kept (h':=s.heap.push { cls:=.type "tuple",data:=.seq us.toArray }) (t':=s.toks) λb u q=>u8 _ q
 refine Inv.laid (s:={ s with heap:=s.heap.push { cls:=.type "tuple",data:=.seq us.toArray } }) (a:=s.heap.objs.size+1) (o:=.exc C none [] true) (t':=s.toks) I1 (λb u q=>u8 _ q) (Nat.le_of_eq (Heap.size_push _ _)) ?_;refine⟨⟨#[.ref s.heap.objs.size,.none,.none,.none,.bool false,.none],?_,rfl,λ_=>rfl⟩,.inl ⟨rfl,rfl⟩⟩;have:=ut (s.heap.push { cls:=.type "tuple",data:=.seq us.toArray }) (o:={ cls:=.ref C,data:=.fields #[.ref s.heap.objs.size,.none,.none,.none,.bool false,.none] }) rfl
 rwa [Heap.size_push]at this
variable {CX:qd}{k:Nat}{fd:FuncData}{ps:List Str}{sp:Sp}{dvs:List V}{ds:List Value}{E:St->XK}{x m:Str}{p pos apos:Pos}{e o:Expr}{es:List Expr}{ta:TE}{t:TA}
abbrev tO (C:Addr)(sp:Sp)(dvs:List V)(E:St->XK)(t:TA):TE:=λU H Q=>t U H λvs H1=>vs.length<=1000/\∀ x,H1 x=none->sp (.ref x::(vs++dvs)) (upd H1 x (.exc C none [] true)) (λv H2=>v=.non/\Q (.ref x) H2) (E U)
def ki {Q:VK}(M:E7 X.K C f)(F:cF X.prog X.w X.K X.mg X.base CX k f fd ps sp)(hr:bC (k+1) X.A)(hb:Binds X.K fd ps ds)(hd:Vals dvs ds)
  (hx:Passes CX X E) (hz:us.length<=ce) (I:Inv X Y U H s) (r:Vals vs us)
  (h:∀ x,H x=none->sp (.ref x::(vs++dvs)) (upd H x (.exc C none [] true)) (λv H2=>v=.non/\Q (.ref x) H2) (E U)):
  wpAny (model X.prog X.w) X.A (call (.ref C) us) (EP X Y U Q) X.xe s:=by
 have hq:=h (s.heap.objs.size+1) (I.hok.fresh (Nat.le_succ _));have I2:=Inv.zy (C:=C) us I;have r2:Vals (V.ref (s.heap.objs.size+1)::(vs++dvs)) (Value.ref (s.heap.objs.size+1)::(us++ds)):=.cons rfl (r.append hd);have hl:(Value.ref (s.heap.objs.size+1)::us++ds).length=ps.length:=by
  have e:=r2.length;rw[F.len _ _ _ _ hq]at e;exact e.symm
 obtain⟨hh,g,d,tk,os⟩:=s;refine wpAny_call (Bo (fI:=f) I.bF hz M.mks M.init (beq_iff_eq.mp M.fn) (codeAny_mono (F.run _ X.stack _ _ ⟨Value.ref (hh.objs.size+1)::us,[]⟩ (Value.ref (hh.objs.size+1)::(us++ds)) _ _ (E U) (hr.make C us [])
  (I2.gj.make C us []) (hb _ (Value.ref (hh.objs.size+1)::us) I2.bF hl) r2 hq) λr s' hq'=>?_))
 cases r with
 |error e=>exact hx Y U _ _ e s' I2 hq'
 |ok fl=>
  cases fl with
  |ret u=>
   obtain⟨v,H',J,rv,ev,q⟩:=I2.after hq';subst ev;obtain rfl:u=Value.none:=rv;exact⟨rfl,.ref _,H',J,rfl,q⟩
  |next=>exact False.elim hq'
  |brk=>exact False.elim hq'
  |cont=>exact False.elim hq'
def vx (M:E7 X.K C f)(F:cF X.prog X.w X.K X.mg X.base CX k f fd ps sp)(hr:bC (k+1) X.A)(hg:Gl X x)(hm:X.mg x=some (.ref C))(hb:Binds X.K fd ps ds)(hd:Vals dvs ds)(hx:Passes CX X E)
  (ha:PA X (e::es) t) (hdb:(x ==("__debug__":Str))=false:=by decide) (he:bv (e::es) X.env=(false,eval e X.env)::bv es X.env:=by rfl) (hpl:(backTo pos (bv es X.env)).any (·.1)=false:=by rfl):
  PE X (.Call (.Name x p) (e::es) [] pos) (tO C sp dvs E t):=by
 intro Y s U H Q I h;refine ci (ba I hg hm ?_ hdb);refine W.callWith_K (h₀:=X.base) I.ok.mod.kin M.kp (aG (ha pos Y s U H _ I h) λus s1 ⟨vs,H1,I1,r,z,q⟩=>⟨I1.bF,?_⟩) he hpl;exact ki M F hr hb hd hx (by rw[nil_append,<-r.length];exact Nat.le_of_lt (cO z)) I1 r q
structure Ba (K:W.Frag) (C:Addr):Prop where
 mks:bG K C=true
 init:W.findIn K (.ref C) "__init__"=some (some (.builtin "ValueError.__init__"))
 kp:W.keepIn K (.ref C)=true
 cls:bY K C
abbrev yW (C:Addr)(t:TA):TE:=λU H Q=>t U H λvs H1=>vs.length=1/\∀ x,H1 x=none->Q (.ref x) (upd H1 x (.exc C none [] true))
def oA {Q:VK}(M:Ba X.K C)(I:Inv X Y U H s)(r:Vals vs us)(h1:vs.length=1)(h:∀ x,H x=none->Q (.ref x) (upd H x (.exc C none [] true))):
  wpAny (model X.prog X.w) X.A (call (.ref C) us) (EP X Y U Q) X.xe s:=by
 have hq:=h (s.heap.objs.size+1) (I.hok.fresh (Nat.le_succ _));have I2:=Inv.zy (C:=C) us I;obtain⟨u,rfl⟩:∃ u,us=[u]:=by
  have e:=r.length;rw[h1]at e
  match us,e with
  | [u],_=>exact⟨u,rfl⟩
 obtain⟨hh,g,d,tk,os⟩:=s;refine wpAny_call (xA I.bF (by rw[sizeLine_eq];exact pi rfl) M.mks M.init (i4 (C:=C) (dx:=none) (fs:=[]) (fr:=true) I2 aA M.cls λs' J=>?_));exact⟨rfl,.ref _,_,J,rfl,hq⟩
def uZ (M:Ba X.K C)(hg:Gl X x)(hm:X.mg x=some (.ref C))(ha:PA X (e::es) t)(hdb:(x ==("__debug__":Str))=false:=by decide) (he:bv (e::es) X.env=(false,eval e X.env)::bv es X.env:=by rfl) (hpl:(backTo pos (bv es X.env)).any (·.1)=false:=by rfl):
  PE X (.Call (.Name x p) (e::es) [] pos) (yW C t):=by
 intro Y s U H Q I h;refine ci (ba I hg hm ?_ hdb);refine W.callWith_K (h₀:=X.base) I.ok.mod.kin M.kp (aG (ha pos Y s U H _ I h) λus s1 ⟨vs,H1,I1,r,z,q⟩=>⟨I1.bF,?_⟩) he hpl;exact oA M I1 r z q
structure GK (K:W.Frag) (B:Addr):Prop where
 ga:W.specialIn K (.ref B) "__getattribute__"=some (some (.builtin "type.__getattribute__"))
 rd:W.readsIn K B (.type "type")=true
 fi:W.findCls K (.ref B) (.type "type") "__init__"=some (.val (.builtin "ValueError.__init__"))
abbrev F4 (K:W.Frag)(t:TA):TE:=λU H Q=>t U H λvs H1=>∃ a C dx fs fr v,vs=[.ref a,v]/\H1 a=some (.exc C dx fs fr)/\bY K C/\Q .non H1
def Ck {B:Addr}{pl:Sem Bool}{np:Pos}(b:GK X.K B)(hg:Gl X x)(hm:X.mg x=some (.ref B))(ha:PA X (e::es) t)(hdb:(x ==("__debug__":Str))=false:=by decide)
  (hst:bv (e::es) X.env=(false,eval e X.env)::bv es X.env:=by rfl) (hpl:(backTo pos (bv es X.env)).any (·.1)=false:=by rfl)
  (ht:eval (.Call (.Attribute (.Name x np) "__init__" apos) (e::es) [] pos) X.env=(do
   let ov <-eval (.Name x np) X.env
   standAt apos.atName
   let(f,first) <-holding [ov] (getMethod ov "__init__" pl)
   callWith pos f first (backTo pos (bv (e::es) X.env)) (backToKw pos (keywordEach [] X.env))):=by rfl):
  PE X (.Call (.Attribute (.Name x np) "__init__" apos) (e::es) [] pos) (F4 X.K t):=by
 intro Y s U H Q I h;refine W.methodCall_KW (pl:=pl) (ba I hg hm ?_ hdb) ht;refine W.method_cls I.bF b.ga (W.cls_value I.bF b.rd b.fi (by decide+kernel) ?_);refine PyProof.Rows.callWith_builtin1 (aG (ha pos Y _ U H _ (I.tok _) h) λus s1 ⟨vs,H1,I1,r,a,C,dx,fs,fr,v,ev,ea,c,q⟩=>?_) hst hpl;subst ev;cases r with
 |cons r1 r2=>
  cases r2 with
  |cons r3 r4=>
   cases r4;cases r1;exact pL I1 ea c λs' J=>⟨.non,H1,J,rfl,q⟩
structure GQ (K:W.Frag) (C f:Addr):Prop where
 ga:W.specialIn K (.ref C) "__getattribute__"=some (some (.builtin "type.__getattribute__"))
 rd:W.readsIn K C (.type "type")=true
 fi:W.findCls K (.ref C) (.type "type") "__init__"=some (.val (.ref f))
 kp:W.keepIn K (.ref f)=true
end
section
open PySem.Builtin PySem.Builtin.ObjectAttr
variable {prog:Program}{w:World}{A:Around}{E:HC}{s:Shared}{K:W.Frag}{x C:Addr}{ox:Obj}{odo:Option Obj}
structure vB (K:W.Frag) (C:Addr):Prop where
 ha:W.findIn K (.ref C) "__class__"=some (some (.builtin "object.__class__"))
 hn:W.specialIn K (.builtin "object.__class__") "__get__"=some (some (.builtin "getset_descriptor.__get__"))
 htk:W.takesIn K (.builtin "object.__class__")=some true
def xI {Q:Option Value->Shared->Prop}(X:K.In s.heap)(I:W.InstAt s.heap x ox C odo)(c:bY K C)(z:vB K C)(hfo:W.findObj K C odo "__class__"=some (.bind (.builtin "getset_descriptor.__get__") (.builtin "object.__class__")))
  (h:Q (some (.ref C)) { s with toks:=s.toks+1 }):wpAny (model prog w) A (getAttr? (.ref x) "__class__") Q E s:=by
 obtain⟨hp,g,d,t,os⟩:=s;have L0:=I.type (M:=model prog w);have L1:=looks_findIn (M:=model prog w) X c.ga;have L2':=looks_findIn (M:=model prog w) X c.gn;have L3:=looks_find (M:=model prog w) X I hfo;have L4:Looks (model prog w) hp (isInstance (.ref x) (.type "BaseException")) true:=I.type.andThen (looks_mroIn X (c.sub (by decide+kernel)));unfold getAttr? getAttrBy? getAttrBy;refine ap (wpAny_mkText (ap (wpAny_attempt (bm (ap (L0.at (ap (L1.at ?_))))))));have e1:(Value.builtin "BaseException.__getattribute__" ==Value.builtin "object.__getattribute__")=false:=by decide+kernel
 dsimp only;rw[e1,Bool.and_false];show wpAny _ _ (getAttrByItsOwn _ _ _ _ _ _) _ _ _;unfold getAttrByItsOwn hookBefore;refine ap (L2'.at ?_);refine ap (wpAny_attempt (bm ?_));unfold callGetattribute;show wpAny _ _ (boundAndCalled _ _ _) _ _ _;unfold boundAndCalled;rw[PySem.F.attr_ValueError.ga.bind];refine ap (bd (wpAny_call (codeAny_call_builtin PySem.F.attr_ValueError.ga.plain PySem.F.entry_bexc_ga ?_)));refine @check_slot (model prog w) _ _ _ "BaseException.__getattribute__" "BaseException" "__getattribute__" (.ref x) [.str "__class__" t] [] _ ma km L4 (PySem.F.args_bexc_ga (.ref x) (.str "__class__" t)) ?_;unfold Builtin.«object.__getattribute__»;refine ap (bd (ap (bd (ap (L0.at (ap (L3.at ?_)))))));show wpAny _ _ (holding [_] (call _ [_,.ref x,.ref C]) >>= ret) _ _ _;refine ap (bm (wpAny_call (class_get (s:=⟨hp,g,d,t+1,os⟩) (ox:=ox) (od:=odo) X I (c.sub (by decide+kernel)) ?_)));refine bd ?_;show wpAny _ _ (handedOut (.ref C)) _ _ _;exact handed_on rfl (bd h)
def vH (c:bY K C)(z:vB K C):W.findObj K C odo "__class__"=some (.bind (.builtin "getset_descriptor.__get__") (.builtin "object.__class__")):=by
 obtain⟨cd,hc,_⟩:=W.any_some c.hd;unfold W.findObj;rw[hc,Option.bind_some,z.ha,Option.bind_some];simp[z.hn,z.htk]
def vF (c:bY K C)(z:vB K C):W.KitX K (.ref x) (.ref C) (λh=>W.InstAt h x ox C odo) where
 ty:=λ_ _ _ I=>I.type
 it:=λ_ _ X _=>by
  obtain⟨cdD,hcD,_⟩:=W.any_some c.hd;unfold W.clsIn at hcD
  split at hcD
  .rename_i c' d' cd' sl' ho;intro A' Q' E' s' k q;unfold isType loadHead;exact ap (wpAny_loadPart (k _ _ (X _ _ ho)) (bd q))
  .cases hcD
 ne:=λh tp dd its n sl X htp=>by
  obtain⟨cdD,hcD,_⟩:=W.any_some c.hd;refine Bool.eq_false_iff.mpr λq=>?_
  have e:C=tp:=Value.ref.inj (beq_iff_eq.mp q);subst e;unfold W.clsIn at hcD
  split at hcD
  .rename_i c' d' cd' sl' ho;have z:=(X _ _ ho).symm.trans htp;cases z
  .cases hcD
 ca:=λX I k=>xI X I c z (vH c z) k
end
section
variable {X:Cx}{Y:HD}{U:St}{H:Hp}{s:Shared}{a C:Addr}{dx:Option Addr}{fs:List (Str×V)}{fr:Bool}
def vw (I:Inv X Y U H s)(e:H a=some (.exc C dx fs fr)):∃ ox odo,W.InstAt s.heap a ox C odo:=by
 obtain⟨⟨vs,ho,_⟩,z⟩:=id (I.hok a _ e);rcases z with⟨rfl,_⟩|⟨d,rfl,_,_,_,mA,⟨od,es,ep,hod,_⟩,_⟩
 .exact⟨_,none,ho,rfl,rfl,True.intro⟩
 .exact⟨_,some od,ho,rfl,rfl,hod⟩
def uG {E:HC}{Q:HC}{cv:Value}{b:Bool}(I:Inv X Y U H s)(e:H a=some (.exc C dx fs fr))(c:bY X.K C)(z:vB X.K C)(k:W.kitOne X.K (.ref C) cv=some b)
  (h:∀ tk,Q (.bool b) { s with toks:=tk }):wpAny (model X.prog X.w) A (call (.builtin "isinstance") [.ref a,cv]) Q E s:=by
 obtain⟨ox,odo,J⟩:=vw I e;exact W.kia_one (vF (ox:=ox) (odo:=odo) c z) I.bF J k (λz=>nomatch z) h
end
end L2
namespace L2
open PySem PySem.Spec PySem.W PyProof.Rows
variable {dx:Option Addr}
section
variable {X:Cx}{f:Str}{o value ex:Expr}{ta tv te:TE}{pos pos':Pos}{E:St->XK}
def oo {h:Heap}{a:Addr}{C:Addr}{vs:Array Value}{M:Model}(ho:h.get? a=some { cls:=.ref C,dict:=dx,data:=.fields vs }):W.Looks M h (isType (.ref a)) false:=by
 intro A Q E s k q;unfold isType loadHead;exact ap (wpAny_loadPart (k _ _ ho) (bd q))
abbrev Cy (K:W.Frag)(E:St->XK)(te:TE):TS:=λD U H=>te U H λv H1=>∃ a C dx fs,v=.ref a/\H1 a=some (.exc C dx fs true)/\bY K C/\E U a (upd H1 a (.exc C dx fs false))
def uf (hx:D6 X E)(hc:X.calm=true)(he:PE X ex te):PS X (.Raise (some ex) none pos) (Cy X.K E te):=by
 intro Y s U H D I h;rw[arm_exec_Raise];simp only[evalOpt,Option.map];refine ap (wpAny_standAt ?_);unfold raiseStmt;refine ap (ap (aG (he Y s U H _ I h) λu s1 ⟨y,H1,I1,ry,a,C,dx,fs,ey,ea,c,q⟩=>ap (wpAny_standAt (bd ?_))));subst ey;obtain rfl:u=Value.ref a:=ry;obtain⟨⟨vs,ho,hsz,h1⟩,z⟩:=id (I1.hok a _ ea);have h1':=h1 rfl;have hq:X.xe (.ref a) s1:=by
  have J:Inv X [] U (upd H1 a (.exc C dx fs false)) s1:=by
   have J1:=I1.nV.write (x:=a) (e:=a) (o:=.exc C dx fs false) (t':=s1.toks) (h':=s1.heap) (by rw[ea];exact True.intro) (.inl rfl) (λ_ _ _ q=>q) ⟨_,ho⟩ ?_
   .exact J1
   .refine⟨⟨vs,ho,hsz,λy=>by cases y⟩,?_⟩;rcases z with z|⟨d,ed,d1,z1,ne,r⟩
    .exact .inl z
    .exact .inr ⟨d,ed,by rw[af ne];exact d1,z1,ne,r⟩
  exact hx U _ s1 a C dx fs J (.inl ⟨_,vs,ho,rfl,h1'⟩) aA q
 obtain⟨hp,g,d,tk,os⟩:=s1;have L0:Looks (model X.prog X.w) hp (typeOf (.ref a)) (.ref C):=(Looks.ld ho).andThen .now;have L1:Looks (model X.prog X.w) hp (isType (.ref a)) false:=oo ho;have L2':Looks (model X.prog X.w) hp (isInstance (.ref a) (.type "BaseException")) true:=L0.andThen (looks_mroIn I1.bF (c.sub (by decide+kernel)));have L5:Looks (model X.prog X.w) hp (typeOf (.ref C)) (.type "type"):=looks_typeIn I1.bF c.mt;have tt:(Value.type "type" ==Value.type "type")=true:=by decide
 repeat(first|simp only[Bool.false_eq_true,if_false,if_true,tt]|lk)
 rw[h1'];refine bd ?_;rw[if_neg (by decide)];exact bd (wpAny_raiseNew_none (I1.ok.hd hc) hq)
end
@[reducible]def Cx.bj (X:Cx) (e:Value):Cx:={ X with A:=X.A.mark (some e),calm:=false,xe:=λ_ _=>False }
section
variable {X:Cx}{Y:HD}{U:St}{H:Hp}{s:Shared}
def Cx.Ok.bj (ok:X.Ok)(e:Value):(X.bj e).Ok:=
 ⟨ok.mod,ok.kind,ok.glob,ok.blt,ok.above,ok.inj,ok.has,ok.cab,(λz=>by cases z),ok.frames,ok.stk,ok.exf,ok.bs,ok.bsz,ok.noex,ok.exfs,ok.ik,ok.frf⟩
def Inv.bj (I:Inv X Y U H s)(e:Value):Inv (X.bj e) Y U H s:=⟨I.ok.bj e,I.os,I.bare,I.base,I.loc,I.cell,I.free,I.freeC,I.pin,I.hok,I.len⟩
def Inv.iG {e:Value}(ok:X.Ok)(I:Inv (X.bj e) Y U H s):Inv X Y U H s:=⟨ok,I.os,I.bare,I.base,I.loc,I.cell,I.free,I.freeC,I.pin,I.hok,I.len⟩
def d5 {M:Model}{A:Around}{E:HC}{Q:HB}{i:Nat}{n:Str}{pos:Pos}(I:Inv X Y U H s)(hN:X.N.Nodup)(hi:X.N[i]? =some n)(hn:X.env.scope.names.lookup n=some .local)
  (h:∀ s',Inv X Y (U.set i none) H s'->Q () s'):wpAny M A (do bindName X.env n .none;unbindBehindTheSuite X.env n pos) Q E s:=by
 have hcls:(X.env.scope.kind ==.class||(X.env.scope.kind ==.module&&X.env.locals != X.env.globals))=false:=by rw[I.ok.kind];rfl
 refine ap (wpAny_bindName (fq I hN hi (.inl hn) (v:=.non) rfl (λs1 I1=>?_) (.inr hn)));obtain⟨m,hm,hl⟩:=I1.loc;unfold unbindBehindTheSuite;refine wpAny_onRaise ?_;unfold unbindName;refine ap (wpAny_point (ap ?_));unfold deleteName;have hk:X.env.kindOf n=some .local:=hn;have hiσ:i<U.length:=by rw[I.len];exact(tz.mp hi).1
 have hmn:(m n).isSome=true:=by
  obtain⟨u,_,l⟩:=hl i n .non hi (by rw[getElem?_set_self hiσ]) (.inl hn);rcases l with⟨_,q⟩|⟨q,_⟩
  .rw[q];rfl
  .rcases q with q|q<;>(rw[hk]at q;cases q)
 simp only[hk,hcls];rw[if_neg (by decide)];refine ap (wpAny_nsDel_keeps hm λh2 v hn2 hs2=>?_);rw[hmn];simp only[if_true,Bool.not_true,Bool.false_eq_true,if_false];refine bd (wpAny_point (h { s1 with heap:=h2 } ?_));obtain⟨oL,esL,epL,hoL,_⟩:=id hm;have vo:=I1.vo;refine⟨I1.ok,I1.os,I1.bare,⟨λb o e n hb hx=>?_,λb o e n hb hx=>?_,I1.base.free,λb o e hx=>?_,I1.base.tups,I1.base.frzs,I1.base.tbls⟩,⟨_,hn2,λj y v' e1 e2 e3=>?_⟩,λy c e=>?_,I1.free,I1.freeC,λp hp=>?_,λa u ha=>?_,by rw[length_set];exact I.len⟩
 .exact(hs2.2 b (re (pc (ul e) I1.ok.above))).trans (I1.base.keep b o e n hb hx)
 .obtain⟨sl,q⟩:=I1.base.slot b o e n hb hx;exact⟨sl,(hs2.2 b (re (pc (ul e) I1.ok.above))).trans q⟩
 .obtain⟨o',q⟩:=I1.base.there b o e hx;exact⟨o',(hs2.2 b (re (pc (ul e) I1.ok.above))).trans q⟩
 .have hj:j≠i:=λz=>by rw[z,getElem?_set_self hiσ]at e2;cases e2
  rw[getElem?_set_ne (Ne.symm hj)]at e2;obtain⟨u,r,q⟩:=hl j y v' e1 (by rw[getElem?_set_ne (Ne.symm hj)];exact e2) e3;refine⟨u,r,?_⟩;rcases q with⟨k,e⟩|⟨k,c,e,z⟩
  .refine .inl ⟨k,?_⟩;have ny:y≠n:=λz=>hj (jq hN e1 (z▸hi))
   show(if y=n then v else m y)=some u;rw[if_neg ny];exact e
  .exact .inr ⟨k,c,e,z.sameBut hs2 (vo y c e)⟩
 .obtain⟨w',z⟩:=I1.cell y c e;exact⟨w',z.sameBut hs2 (vo y c e)⟩
 .obtain⟨e,n,ne,nf,d⟩:=I1.pin p hp;exact⟨(hs2.2 p.1 ne).trans e,n,ne,nf,d⟩
 .refine(I1.hok a u ha).d9 (λb o hb hq=>(hs2.2 b ?_).trans hq) (λ_ q=>q) λ_ _ q=>q
  rintro rfl;rcases hb with hb|hb
  .rw[<-hb,I1.free]at ha;cases ha
  .rw[I1.free]at hb;cases hb
def nE {n x:Str}{np hpos:Pos}{b0:Stmt}{bj:List Stmt}{rest:List ExceptHandler}{i:Nat}{D:Ends}{e C Ch T:Addr}{fs:List (Str×V)}{b:Bool}(I:Inv X Y U H s)(he:H e=some (.exc C dx fs false))
  (hT:X.s₀.heap.objs.size<=T) (hH:H T=none) (hp:∀ p ∈ X.pn++Y,p.1≠T) (st:tF s.heap e T .none) (c:bY X.K C) (ch:bY X.K Ch) (hsub:W.mroIn X.K C (.ref Ch)=some b) (hg:Gl X x) (hm:X.mg x=some (.ref Ch))
  (hN:X.N.Nodup) (hi:X.N[i]? =some n) (hn:X.env.scope.names.lookup n=some .local) (hdb:(x ==("__debug__":Str))=false)
  (yes:b=true->∀ s2,Inv (X.bj (.ref e)) Y (U.set i (some (.ref e))) H s2->wpAny (model X.prog X.w) (X.A.mark (some (.ref e))) (execs (b0::bj) X.env)
   (SP (X.bj (.ref e)) Y { nx:=λσ' H'=>D.nx (σ'.set i none) H',rt:=D.rt,bk:=λσ' H'=>D.bk (σ'.set i none) H',ct:=λσ' H'=>D.ct (σ'.set i none) H' }) (λ_ _=>False) s2)
  (no:b=false->wpAny (model X.prog X.w) X.A (handleBy (.ref e) X.env rest) (SP X Y D) X.xe s):
  wpAny (model X.prog X.w) X.A (handleBy (.ref e) X.env (.ExceptHandler (some (.Name x np)) (some n) (b0::bj) hpos::rest)) (SP X Y D) X.xe s:=by
 have I':=I.bj (.ref e);refine wpAny_handleBy_cons (codeAny_handlers_test (ba (X:=X.bj (.ref e)) I' hg hm ?_ hdb)) (by intro q;cases q);obtain⟨⟨vs,ho,hsz,h1⟩,z⟩:=id (I.hok e _ he);have L0:Looks (model X.prog X.w) s.heap (typeOf (.ref e)) (.ref C):=(Looks.ld ho).andThen .now;have L1:Looks (model X.prog X.w) s.heap (typeOf (.ref Ch)) (.type "type"):=looks_typeIn I.bF ch.mt;have L2':Looks (model X.prog X.w) s.heap (isInstance (.ref Ch) (.type "tuple")) false:=L1.andThen (Looks.of_pure tc_notTuple);have L3:Looks (model X.prog X.w) s.heap (isType (.ref Ch)) true:=by
  obtain⟨cd,rs,hcl,_⟩:=ch.mro;unfold W.clsIn at hcl
  split at hcl
  .rename_i ho';intro A' Q' E' s' k q;unfold isType loadHead;exact ap (wpAny_loadPart (k _ _ (I.bF _ _ ho')) (bd q))
  .cases hcl
 have L4:Looks (model X.prog X.w) s.heap (isSubtype (.ref Ch) (.type "BaseException")) true:=looks_mroIn I.bF (ch.sub (by decide+kernel));have L5:Looks (model X.prog X.w) s.heap (isSubtype (.ref C) (.ref Ch)) b:=looks_mroIn I.bF hsub;have L6:Looks (model X.prog X.w) s.heap (isExcClass (.ref Ch)) true:=by
  unfold isExcClass;exact L3.andThen L4
 unfold excMatches;refine ap (L2'.here ?_);rw[if_neg (by decide)];refine ap (bd ?_);simp only[forIn_cons,forIn_nil];refine ap (ap (ap (L6.here ?_)));rw[if_neg (by decide)];refine bd ?_;refine bd ?_;refine ap (L0.here ?_);refine ap (ap (ap (L5.here ?_)));cases b with
 |false=>
  rw[if_neg (by decide)];refine bd ?_;refine bd ?_;refine bd ?_;exact no rfl
 |true=>
  rw[if_pos rfl];refine bd ?_;refine bd ?_;refine bd ?_;refine codeAny_handlers_suite_as (qG st λh2 oy oth _ th2 _=>?_);have I2:Inv X Y U H { s with heap:=h2 }:=by
   refine Inv.turned (it:=T) (h':=h2) (t':=s.toks) I (λb o hb hq=>(oth b hb).trans hq) hH ?_ (.inr hT) (λy cc hc z=>?_) hp
   .intro z;obtain⟨m,⟨o,es,ep,ho',hd,_⟩,_⟩:=I.loc;obtain⟨_,_,oT,ts,_,_,_,_,hT2,hd2,_⟩:=st;rw[z,ho']at hT2;cases hT2;rw[hd]at hd2;cases hd2
   .obtain⟨v,o,ho',hd⟩:=I.cell y cc hc;obtain⟨_,_,oT,ts,_,_,_,_,hT2,hd2,_⟩:=st;rw[<-z,ho']at hT2;cases hT2;rw[hd]at hd2;cases hd2
  refine fq (X:=X.bj (.ref e)) (I2.bj (.ref e)) hN hi (.inl hn) (v:=.ref e) rfl (λs3 I3=>?_) (.inr hn);refine wpAny_mono (yes rfl s3 I3) (λf s4 h4=>?_) λ_ _ z=>z.elim
  cases f with
  |next=>
   obtain⟨σ',H',J,q⟩:=h4;exact d5 (J.iG I.ok) hN hi hn λs5 J5=>⟨_,H',J5,q⟩
  |brk=>
   obtain⟨σ',H',J,q⟩:=h4;exact d5 (J.iG I.ok) hN hi hn λs5 J5=>⟨_,H',J5,q⟩
  |cont=>
   obtain⟨σ',H',J,q⟩:=h4;exact d5 (J.iG I.ok) hN hi hn λs5 J5=>⟨_,H',J5,q⟩
  |ret u=>
   obtain⟨v,σ',H',J,r,q⟩:=h4;exact d5 (J.iG I.ok) hN hi hn λs5 J5=>⟨v,_,H',J5,r,q⟩
end
end L2
namespace L2
open PySem PySem.Spec PyProof.Rows
def CJ:bootBuiltins "isinstance"=some (.builtin "isinstance"):=by decide+kernel
section
variable {X:Cx}
abbrev Ef (K:W.Frag):V->V->Hp->VK->Prop:=λx y H Q=>∃ p xs i v,x=.ref p/\y=.int i/\aV K H p xs/\0<=i/\xs[i.toNat]? =some v/\Q v H
def um:Bg X (Ef X.K):=by
 intro Y s U H o i ov iv Q I ro ri h;obtain⟨p,xs,k,z,rfl,rfl,hq,h0,he,q⟩:=h;cases ro;obtain⟨t,rfl⟩:=ri;obtain⟨its,r,pl,hz⟩:=I.list hq;obtain⟨w,ew,rw'⟩:=r.get he;have hl:k.toNat<xs.length:=(tz.mp he).1;have hn:=dv;exact wpAny_getItem_list pl.isList h0 nofun (by simpa using ew) ⟨z,H,I,rw',q⟩
def iI {xs:List V}{us:List Value}(r:Vals xs us){j:Nat}(h:j<us.toArray.size):∃ x,xs[j]? =some x/\RelV x (us.toArray[j]):=by
 have hl:=r.length;have hj:j<us.length:=by simpa using h
 have e:xs[j]? =some xs[j]:=lv nofun;obtain⟨u,h1,h2⟩:=r.get e;refine⟨_,e,?_⟩;rw[lv hj]at h1;cases h1;simpa using h2
end
section
variable {U:St}{H:Hp}{Q:VK}{D:Ends}{K:W.Frag}
abbrev qO (x:V)(H:Hp)(R:Bool->Hp->Prop):Prop:=∃ k,x=.bl k/\R k H
def nP {α:Type}{xs:List α}{i:Int}(h0:0<=i)(h1:i<xs.length):∃ v,iB xs i=some v/\v ∈ xs:=by
 obtain⟨n,rfl⟩:=sw h0;have hn:n<xs.length:=by omega
 exact⟨xs[n],qB (lv hn),List.getElem_mem hn⟩
end
section
variable {K:W.Frag}{g:TG}{tb:TS}{D:Ends}{U:St}{H:Hp}{tl:TE}{ta:TA}
end
def fits {n:Nat}(h:n<=1000):n<=ce:=Nat.le_of_lt (cO h)
section
variable {X:Cx}{H:Hp}{Q:VK}
end
section
variable {K:W.Frag}
end
section
variable {H H':Hp}{h c p:Addr}{m n:Int}{o:HO}
end
def Ey (ns:List Int)(h:ns.length<=63):ij (ns.map V.int) none (some 63)=ns.map V.int:=by
 have e1:HT.aS (ns.map V.int).length 0 none=0:=rfl;have e2:HT.aS (ns.map V.int).length (ns.map V.int).length (some 63)=(ns.map V.int).length:=by
  show(if(63:Int)<0 then((63:Int)+((ns.map V.int).length:Int)).toNat else min (63:Int).toNat (ns.map V.int).length)=(ns.map V.int).length;rw[if_neg (by decide),cr];show min 63 ns.length=ns.length
  omega
 unfold ij;rw[e1,e2,drop_zero,Nat.sub_zero,List.take_length]
variable {ns:List Int}
def pE {i:Nat}{x:V}(h:(ns.map V.int)[i]? =some x):∃ z,x=V.int z:=by
 rw[le]at h;cases e:ns[i]? with
 |none=>rw[e]at h;cases h
 |some z=>rw[e]at h;exact⟨z,(Option.some.inj h).symm⟩
def u0 {i:Int}(h0:0<=i)(h1:i<ns.length):∃ z,iB (ns.map V.int) i=some (.int z):=by
 obtain⟨v,a,m⟩:=nP (xs:=ns.map V.int) h0 (by rw[cr];exact h1);obtain⟨z,_,rfl⟩:=List.mem_map.mp m;exact⟨z,a⟩
section
variable {H:Hp}{Q:VK}
end
section
variable {X:Cx}
end
abbrev AN (X:Cx)(scope:Scope)(cl:List (Str×Addr))(N:List Str)(s:Shared)(H:Hp)(fp:List Addr)(xe:HC):Cx:=
 { X with N:=N,s₀:=s,H₀:=H,env:=compEnvC scope cl s.heap.objs.size X.env,outer:=X.stack,stack:=X.stack,ex:=fp,fn:=λ_=>false,xe:=xe }
abbrev G9 (X:Cx)(E:XK)(u:Value)(s':Shared):Prop:=∃ (σ':St) (H':Hp) (e C:Addr) (dx:Option Addr) (fs:List (Str×V)),u=.ref e/\Inv X [] σ' H' s'/\vf X.s₀.heap.objs.size X.pn H' s'.heap e/\H' e=some (.exc C dx fs false)/\E e H'
abbrev fe (X:Cx)(scope:Scope)(cl:List (Str×Addr))(N:List Str)(s:Shared)(H:Hp)(fp:List Addr)(E:XK):Cx:=AN X scope cl N s H fp (G9 (AN X scope cl N s H fp λ_ _=>False) E)
variable {X:Cx}{scope:Scope}{cl:List (Str×Addr)}{s:Shared}{H:Hp}{fp:List Addr}{E:XK}
def zB {N:List Str}:D6 (fe X scope cl N s H fp E) (λ_=>E):=λσ' H' s' e C dx fs I sf he q=>
 ⟨σ',H',e,C,dx,fs,rfl,⟨⟨I.ok.mod,I.ok.kind,I.ok.glob,I.ok.blt,I.ok.above,I.ok.inj,I.ok.has,I.ok.cab,I.ok.hd,I.ok.frames,I.ok.stk,I.ok.exf,I.ok.bs,I.ok.bsz,I.ok.noex,I.ok.exfs,I.ok.ik,I.ok.frf⟩,I.os,I.bare,I.base,I.loc,I.cell,I.free,I.freeC,I.pin,I.hok,I.len⟩,sf,he,q⟩
structure aZ (X:Cx) (scope:Scope) (cl:List (Str×Addr)) (xs:List Str) (fr:List Str) (sel:List Nat):Prop where
 clos:closureFor scope X.env=pure cl
 sub:∀ y c,cl.lookup y=some c->X.env.cells.lookup y=some c
 has:∀ y,((relabel scope X.env).names.lookup y=some .cell\/(relabel scope X.env).names.lookup y=some .free)->∃ c,cl.lookup y=some c
 kind:scope.kind=.function
 nocell:∀ y ∈ scope.names,y.2≠.cell
 names:∀ y ∈ scope.names,y.2=.local->scope.names.lookup y.1=some .local
 own:∀ x ∈ xs,scope.names.lookup x=some .local
 len:sel.length=fr.length
 out:∀ (j:Nat) (y:Str),fr[j]? =some y->∃ i,sel[j]? =some i/\X.N[i]? =some y/\X.env.scope.names.lookup y=some .cell/\(relabel scope X.env).names.lookup y=some .cell
 nd:(xs++fr).Nodup
abbrev fS (U:St)(sel:List Nat):St:=sel.map λi=>U.getD i none
abbrev LC (te:TE)(J:It)(σ₀:St)(H1:Hp)(Q:VK):Prop:=∀ D,H1 D=none->∃ W:Nat->Nat->St->Hp->Prop,(∃ m,W 0 m σ₀ (upd H1 D (.lst [])))/\∀ i m σ' H',W i m σ' H'->
 (J.stop i H'/\Q (.ref D) H')\/(J.go i H'/\∃ N:St->Hp->Prop,(∀ σ2 H2,N σ2 H2->∃ m',m'<m/\W (i+1) m' σ2 H2)/\
  ∀ x H'',J.yld i H' x H''->te (σ'.set 0 (some x)) H'' λv H3=>∃ zs,H3 D=some (.lst zs)/\zs.length<ce/\N (σ'.set 0 (some x)) (upd H3 D (.lst (zs++[v]))))
abbrev gate (env:Env):List Expr->Sem Bool
 | []=>pure true
 |c::_=>isTrue c env (eval c env)
variable {ifs:List Expr}{pos:Pos}
def pM {M:Model}{A:Around}{elt target iter:Expr}{it acc:Value}{env:Env}{Q:PySem.Fin->Shared->Prop}{E:HC}(hi:ifs.length<=1)
  (h:wpAny M A (pyNext it) (λr s1=>match r with
   |none=>Q (.done .next) s1
   |some v=>wpAny M A (letOwnedTupleGo target it v) (λ_ s2=>wpAny M A (assign target env v) (λ_ s3=>wpAny M A (gate env ifs) (λok s4=>
    (ok=true->wpAny M A (eval elt env) (λx s5=>wpAny M A (call (.builtin "list.append") [acc,x]) (λ_ s6=>wpAny M A (again (.compLoop (.ListComp elt [⟨target,iter,ifs,0⟩] scope pos) 0 it acc env)) Q E s6) E s5) E s4)/\
    (ok=false->wpAny M A (again (.compLoop (.ListComp elt [⟨target,iter,ifs,0⟩] scope pos) 0 it acc env)) Q E s4)) E s3) E s2) E s1) E s):
  wpAny M A (compTurn (.ListComp elt [⟨target,iter,ifs,0⟩] scope pos) 0 it acc env) Q E s:=by
 have key:∀ {g:Sem Bool}{K:Sem PySem.Fin}{s:Shared},wpAny M A g (λok s4=>
    (ok=true->wpAny M A (eval elt env) (λx s5=>wpAny M A (call (.builtin "list.append") [acc,x]) (λ_ s6=>wpAny M A K Q E s6) E s5) E s4)/\
    (ok=false->wpAny M A K Q E s4)) E s->wpAny M A (g >>= λok=>if ok=true then(eval elt env >>= λx=>call (.builtin "list.append") [acc,x] >>= λ_=>pure ()) >>= λ_=>K else K) Q E s:=λ{g K s} h=>by
  refine ap (wpAny_mono h (λok s4 h4=>?_) λ_ _ e=>e);cases ok with
  |false=>exact h4.2 rfl
  |true=>exact ap (ap (wpAny_mono (h4.1 rfl) (λx s5 h5=>ap (wpAny_mono h5 (λ_ s6 h6=>bd h6) λ_ _ e=>e)) λ_ _ e=>e))
 match ifs,hi with
 | [],_=>
  rw[compTurn_list1];refine ap (wpAny_standAt (ap (wpAny_mono h (λr s1 h1=>?_) λ_ _ e=>e)));cases r with
  |none=>exact bd h1
  |some v=>
   refine ap (wpAny_mono h1 (λ_ s2 h2=>ap (wpAny_mono h2 (λ_ s3 h3=>?_) λ_ _ e=>e)) λ_ _ e=>e);exact key (g:=pure true) h3
 | [c],_=>
  unfold compTurn;simp only[List.getElem?_cons_zero,List.getElem?_cons_succ,List.getElem?_nil];dsimp only[forIn,List.forIn',List.forIn'.loop,forIn'];rw[if_neg (by decide),if_neg (by decide)];refine ap (wpAny_standAt (ap (wpAny_mono h (λr s1 h1=>?_) λ_ _ e=>e)));cases r with
  |none=>exact bd h1
  |some v=>
   refine ap (wpAny_mono h1 (λ_ s2 h2=>ap (wpAny_mono h2 (λ_ s3 h3=>?_) λ_ _ e=>e)) λ_ _ e=>e);refine key ?_;rw[if_pos rfl];refine ap (ap (wpAny_mono h3 (λok s4 h4=>bd ?_) λ_ _ e=>e));exact bd h4
abbrev LCg (tg:TG)(tc:TT)(te:TE)(J:It)(σ₀:St)(H1:Hp)(Q:VK):Prop:=∀ D,H1 D=none->∃ W:Nat->Nat->St->Hp->Prop,(∃ m,W 0 m σ₀ (upd H1 D (.lst [])))/\∀ i m σ' H',W i m σ' H'->
 (J.stop i H'/\Q (.ref D) H')\/(J.go i H'/\∃ N:St->Hp->Prop,(∀ σ2 H2,N σ2 H2->∃ m',m'<m/\W (i+1) m' σ2 H2)/\
  ∀ x H'',J.yld i H' x H''->tg x σ' H'' λσ2 H2=>tc σ2 H2 λb H3=>(b=true->te σ2 H3 λv H4=>∃ zs,H4 D=some (.lst zs)/\zs.length<ce/\N σ2 (upd H4 D (.lst (zs++[v]))))/\(b=false->N σ2 H3))
abbrev yes:TT:=λ_ H Q=>Q true H
variable {te:TE}
def LC.g {J:It}{σ₀:St}{H1:Hp}{Q:VK}(h:LC te J σ₀ H1 Q):LCg (fO 0) yes te J σ₀ H1 Q:=λD hD=>by
 obtain⟨W,w0,turn⟩:=h D hD;refine⟨W,w0,λi m σ' H' w=>?_⟩;rcases turn i m σ' H' w with z|⟨go,N,hN,step⟩
 .exact .inl z
 .exact .inr ⟨go,N,hN,λx H'' y=>⟨λ_=>step x H'' y,λe=>nomatch e⟩⟩
abbrev ET (X:Cx)(ifs:List Expr)(tc:TT):Prop:=ifs.length<=1/\∀ (Y:HD) (s:Shared) (U:St) (H:Hp) (Q:Bool->Hp->Prop),Inv X Y U H s->tc U H Q->wpAny (model X.prog X.w) X.A (gate X.env ifs) (TP X Y U Q) X.xe s
def kE:ET X [] yes:=⟨Nat.zero_le _,λY s U H Q I q=>bd ⟨H,I,q⟩⟩
def qo {c:Expr}{tc:TT}(h:PT X c tc):ET X [c] tc:=⟨s0 _,h⟩
abbrev nr (xs:List Str):St:=xs.map λ_=>none
abbrev Gw (wi:TI)(te:TE)(sel:List Nat):TE:=λU H Q=>wi U H λJ H1=>LC te J (none::fS U sel) H1 Q
abbrev De (wi:TI)(tg:TG)(tc:TT)(te:TE)(xs:List Str)(sel:List Nat):TE:=λU H Q=>wi U H λJ H1=>LCg tg tc te J (nr xs++fS U sel) H1 Q
variable {xs fr:List Str}{sel:List Nat}{Y:HD}{U:St}
section
variable {X:Cx}
def Un.sameBut {fs ex:List Addr}{H':Hp}{h h1 h2:Heap}{C:Addr}(u:Un fs ex H H' h h1)(hs:Heap.SameBut C h1 h2)(hC:h.objs.size<=C):Un fs ex H H' h h2:=by
 have ne:∀ b o,h.get? b=some o->b≠C:=λb o e=>re (pc (ul e) hC)
 refine⟨λb o e n hb hx=>(hs.2 b (ne b o e)).trans (u.keep b o e n hb hx),λb o e n hb hx=>?_,u.free,λb o e hx=>?_,u.tups,u.frzs,u.tbls⟩
 .obtain⟨sl,q⟩:=u.slot b o e n hb hx;exact⟨sl,(hs.2 b (ne b o e)).trans q⟩
 .obtain⟨o',q⟩:=u.there b o e hx;exact⟨o',(hs.2 b (ne b o e)).trans q⟩
def mP {h':Heap}{tk:Nat}{m':HE}
  (S:aZ X scope cl xs fr sel) (I:Inv X Y U H s) (f2:∀ b ∈ fp,gG X Y H b) (fo:∀ b ∈ fp,b<s.heap.objs.size) (hns:h'.Ns s.heap.objs.size m') (keep:∀ b o,s.heap.get? b=some o->h'.get? b=some o):
  Inv (fe X scope cl (xs++fr) s H fp E) Y (nr xs++fS U sel) H { s with heap:=h',toks:=tk }:=by
 have stk:∀ b,b≠X.env.locals->b ∉ X.fs->b ∉ k6 X.stack:=λb h1 h2 hb=>(mo.mp (I.gw b hb)).elim h1 h2
 refine⟨⟨I.ok.mod,S.kind,I.ok.glob,I.ok.blt,s0 _,λy z c h1 h2=>I.ok.inj y z c (S.sub y c h1) (S.sub z c h2),λy hy=>S.has y hy,(λy c h=>nomatch h),I.ok.hd,I.ok.frames,.inl rfl,λb hb=>⟨re (fo b hb),λy c h=>(f2 b hb).2.2.2.2.1 y c (S.sub y c h)⟩,I.bs,
  Nat.le_trans I.ok.bsz I.sz,λb o e hb=>?_,λb hb=>stk b (f2 b hb).2.1 (f2 b hb).2.2.1,I.stack,I.lM⟩,
  rfl,I.bare,Un.kept keep,⟨m',hns,λi y v e1 e2 e3=>?_⟩,λy c h=>?_,I.hok.fresh (s0 _),λy c h=>I.freeC y c (S.sub y c h),λp hp=>?_,I.hok.kept keep,?_⟩
 .rcases(f2 b hb).2.2.2.1 with z|z
  .exact I.ok.noex b o e z
  .exact absurd (pc (pc (ul e) I.ok.bsz) z) (Nat.lt_irrefl _)
 .have hln:(nr xs).length=xs.length:=cr ..
  by_cases hlt:i<xs.length
  .rw[getElem?_append_left (by rw[hln];exact hlt)]at e2;unfold nr at e2;rw[le,lv hlt]at e2;cases e2
  .obtain⟨j,rfl⟩:∃ j,i=xs.length+j:=⟨i-xs.length,by omega⟩;have e1':fr[j]? =some y:=by
    have e1:(xs++fr)[xs.length+j]? =some y:=e1;rw[getElem?_append_right nofun,show xs.length+j-xs.length=j by omega]at e1;exact e1
   obtain⟨i,hi,hN,k1,k2⟩:=S.out j y e1';have e2':(fS U sel)[j]? =some (some v):=by
    rw[getElem?_append_right (by rw[hln];omega),hln,show xs.length+j-xs.length=j by omega]at e2;exact e2
   have e4:U[i]? =some (some v):=by
    unfold fS at e2';rw[le,hi]at e2';have e5:U.getD i none=some v:=Option.some.inj e2';rw[List.getD_eq_getElem?_getD]at e5;cases e6:U[i]? with
    |none=>rw[e6]at e5;cases e5
    |some z=>rw[e6]at e5;exact congrArg some e5
   obtain⟨m,hn,hl⟩:=I.loc;obtain⟨u,r,l⟩:=hl i y v hN e4 (.inr (.inl k1));refine⟨u,r,.inr ⟨.inl k2,?_⟩⟩;rcases l with⟨hk,_⟩|⟨_,c,hc,o,ho,hd⟩
   .have hk':X.env.scope.names.lookup y=some .local:=hk;rw[k1]at hk';cases hk'
   .obtain⟨c',hc'⟩:=S.has y (.inl k2);have:=(S.sub y c' hc').symm.trans hc;cases this;exact⟨c,hc',o,keep c o ho,hd⟩
 .obtain⟨v,o,ho,hd⟩:=I.cell y c (S.sub y c h);exact⟨v,o,keep c o ho,hd⟩
 .obtain⟨e,n,ne,nf,d⟩:=I.pin p hp;exact⟨keep p.1 p.2 e,n,re (ul e),stk p.1 ne nf,d⟩
 .show(nr xs++fS U sel).length=(xs++fr).length;unfold fS nr;simp[S.len]
structure ke (X:Cx) (U:St) (E:XK):Prop where
 xok:∀ (H:Hp) (s:Shared) (e C:Addr) (dx:Option Addr) (fs:List (Str×V)),Inv X [] U H s->vf X.s₀.heap.objs.size X.pn H s.heap e->H e=some (.exc C dx fs false)->E e H->X.xe (.ref e) s
 stk:∃ e0 o0 L,X.stack=e0::o0/\e0.frame=some L/\X.env.frame=some L
abbrev Gb (X:Cx)(U:St)(e:Expr)(t:TE):Prop:=∀ (Y:HD) (s:Shared) (H:Hp) (Q:VK),Inv X Y U H s->t U H Q->wpAny (model X.prog X.w) X.A (eval e X.env) (EP X Y U Q) X.xe s
def qM {s3:Shared}{H3:Hp}{D:Addr}{use:Option (Value->Sem Unit)}{P:HC}(hx:ke X U E)
  (I3:Inv X Y U H3 s3) (f3:∀ b ∈ fp,gG X Y H3 b) (u:Value) (s':Shared) (h:(fe X scope cl (xs++fr) s3 H3 fp E).xe u s'):
  notedBy (model X.prog X.w) X.A (compEnvC scope cl s3.heap.objs.size X.env) (λx s2=>compPost (model X.prog X.w) X.A X.xe use P (.ref D) s3.heap.objs.size (.error x) s2) u s':=by
 obtain⟨σ',H',e,C,dx,fs,rfl,I,sf,he,q⟩:=h;obtain⟨e0,o0,L,hs,hf0,hf⟩:=hx.stk;refine mG (X:=AN X scope cl (xs++fr) s3 H3 fp λ_ _=>False) (env:=compEnvC scope cl s3.heap.objs.size X.env) I hs hf0 hf sf he λh1 T I1 hT hH hp st=>?_
 obtain⟨m,hn,_⟩:=I1.loc;refine⟨m,hn,λh2 hs2 cenv _=>?_⟩;have fC:H' s3.heap.objs.size=none:=I1.free;have J:Inv X [] U H' { s' with heap:=h2 }:=by
  refine I3.nV.pZ (ch:=fp) I1.os (I1.base.sameBut hs2 (s0 _)) (λb ob eb=>?_) I1.bare λb hb=>⟨(f3 b hb).2.2.2.1,(f3 b hb).2.1,(f3 b hb).2.2.2.2.1,λp hp=>(f3 b hb).2.2.2.2.2 p (by simpa using .inl (by simpa using hp))⟩
  refine(I1.hok b ob eb).d9 (λc w' hc' q'=>(hs2.2 c ?_).trans q') (λ_ q'=>q') λ_ _ q'=>q'
  intro z;rcases hc' with z2|z2
  .rw[z2]at z;rw[z,fC]at eb;cases eb
  .rw[z,fC]at z2;cases z2
 obtain⟨oe,vs,oT,ts,he1,hd1,h11,hTe,hoT,hdT,h3⟩:=id st;obtain⟨n1,n2⟩:=I1.wo hoT hdT;have neC:e≠s3.heap.objs.size:=λz=>by rw[z,fC]at he;cases he
 have e2:=(hs2.2 e neC).trans he1;have t2:=(hs2.2 T n1).trans hoT;have hz:3<ts.size:=(Array.getElem?_eq_some_iff.mp h3).1;unfold PySem.passOn;refine ap (bi e2 hd1 h11 ?_);rw[if_neg (show ¬ ((Value.ref T ==Value.none)=true) from by simp)];have fly:wpAny (model X.prog X.w) X.A (setFlight (.ref e) cenv.frame) (λ_ s3=>wpAny (model X.prog X.w) X.A (throw (Value.ref e):Sem Value) (λ_ _=>False) X.xe s3) X.xe { s' with heap:=h2 }:=by
  unfold setFlight;refine ap (bi e2 hd1 h11 ?_);rw[if_pos (show(Value.ref T != Value.none)=true from by simp)];refine wpAny_setField t2 hdT hz (wpAny_throw ?_);have other:∀ b,b≠T->(h2.update T (Obj.mapFields (·.setIfInBounds 3 (cenv.frame.elim Value.none λf=>rawInt f)))).get? b=h2.get? b:=λb hb=>Heap.get?_update_other _ _ (Ne.symm hb)
  have self':=Heap.get?_update_self (Obj.mapFields (·.setIfInBounds 3 (cenv.frame.elim Value.none λf=>rawInt f))) t2 (Obj.isFreed_of_fields (Obj.data_mapFields hdT _));obtain⟨k1,k2⟩:=J.wo t2 hdT;have hT':X.s₀.heap.objs.size<=T:=Nat.le_trans I3.sz hT;refine hx.xok H' _ e C dx fs (J.turned (it:=T) (t':=s'.toks) (λb o hb hq=>(other b hb).trans hq) hH k1 (.inr hT') k2 λp hpp=>hp p (show p ∈ X.pn by simpa using hpp)) (.inr ⟨T,hT',hH,hp,_,⟨oe,vs,_,_,(other e (Ne.symm hTe)).trans e2,hd1,h11,hTe,self',Obj.data_mapFields hdT _,by simp[hz];rfl⟩⟩) he q
 first
  |exact ap fly
  |exact ap (bd (ap fly))
def jT {elt iter tgt:Expr}{wi:TI}{tg:TG}{tc:TT}(hc:X.calm=true)(hx:ke X U E)(S:aZ X scope cl xs fr sel)(hi:PI X tgt iter wi)
  (hg:∀ (s:Shared) (H:Hp) (fp:List Addr),PG (fe X scope cl (xs++fr) s H fp E) tgt tg) (ht:∀ (s:Shared) (H:Hp) (fp:List Addr),ET (fe X scope cl (xs++fr) s H fp E) ifs tc)
  (he:∀ (s:Shared) (H:Hp) (fp:List Addr),PE (fe X scope cl (xs++fr) s H fp E) elt te) (hs:∀ x,foldedSetIterable iter X.env x=pure x):Gb X U (.ListComp elt [⟨tgt,iter,ifs,0⟩] scope pos) (De wi tg tc te xs sel):=by
 intro Y s H Q I h;rw[eval_ListComp];refine wpAny_comprehension_free (use:=none) rfl hs S.clos S.kind S.names ?_;refine aG (hi Y s U H _ I h) λv s1 h1=>aG h1 λitv s2 h2=>?_
 obtain⟨it,fp,tn,J,H2,e,I2,T,oy,f2,h2⟩:=h2;subst e;refine wpAny_newObj_type ?_;have hD:H2 s2.heap.objs.size=none:=I2.hok.fresh (s0 _);have I3:Inv X Y U (upd H2 s2.heap.objs.size (.lst [])) { s2 with heap:=s2.heap.push { cls:=.type "list",dict:=none,data:=.seq ([]:List Value).toArray } }:=
  I2.laid (t':=s2.toks) (λb u e=>u8 _ e) (s0 _) ⟨Nat.zero_le _,[],0,.nil,ut _ rfl⟩
 have fo2:∀ b ∈ fp,b<s2.heap.objs.size:=λb hb=>by
  obtain⟨o,ho,_⟩:=T.obj _ _ oy b hb;exact ul ho
 have f3:∀ b ∈ fp,gG X Y (upd H2 s2.heap.objs.size (.lst [])) b:=λb hb=>⟨by rw[af (re (fo2 b hb))];exact(f2 b hb).1,(f2 b hb).2⟩
 have st3:tn 0 (s2.heap.push { cls:=.type "list",dict:=none,data:=.seq ([]:List Value).toArray }):=T.keep _ _ _ oy λb hb o e=>u8 _ e
 have fo3:∀ b ∈ fp,b<(s2.heap.push { cls:=.type "list",dict:=none,data:=.seq ([]:List Value).toArray }).objs.size:=λb hb=>by
  rw[Heap.size_push];exact Nat.lt_succ_of_lt (fo2 b hb)
 obtain⟨W,⟨m0,w0⟩,turn⟩:=h2 _ hD;generalize s2.heap.objs.size=D at*;generalize hs3:({ s2 with heap:=s2.heap.push { cls:=.type "list",dict:=none,data:=.seq ([]:List Value).toArray } }:Shared)=s3 at*;have st3':tn 0 s3.heap:=by rw[<-hs3];exact st3
 have fo3':∀ b ∈ fp,b<s3.heap.objs.size:=by rw[<-hs3];exact fo3
 refine wpAny_newFunctionEnv S.nocell (by intro y hy;simp at hy) (λh' hns hsb=>?_) S.kind;have keep:∀ b o,s3.heap.get? b=some o->h'.get? b=some o:=λb o e=>(hsb.2 b (re (ul e))).trans (u8 _ e)
 have I4:=mP (E:=E) (tk:=s3.toks+([]:List (Str×Value)).length) S I3 f3 fo3' hns keep;have st4:tn 0 h':=T.keep _ _ _ st3' λb hb o e=>keep b o e
 have stat:∀ {H':Hp},(∀ b ∈ fp,H' b=none)->∀ b ∈ fp,gG (fe X scope cl (xs++fr) s3 (upd H2 D (.lst [])) fp E) Y H' b:=λ{H'} hn b hb=>
  ⟨hn b hb,re (fo3' b hb),λz=>(mo.mp (I3.gw b z)).elim (f3 b hb).2.1 (f3 b hb).2.2.1,.inl hb,λy c hy=>(f3 b hb).2.2.2.2.1 y c (S.sub y c hy),λp hp=>(f3 b hb).2.2.2.2.2 p hp⟩
 have loop:codeAny (model X.prog X.w) X.A (.compLoop (.ListComp elt [⟨tgt,iter,ifs,0⟩] scope pos) 0 (.ref it) (.ref D) (compEnvC scope cl s3.heap.objs.size X.env))
   (compPost (model X.prog X.w) X.A X.xe none (EP X Y U Q) (.ref D) s3.heap.objs.size) { s3 with heap:=h',toks:=s3.toks+([]:List (Str×Value)).length }:=by
  refine codeAny_loop rfl (λn s'=>∃ i σ' H',Inv (fe X scope cl (xs++fr) s3 (upd H2 D (.lst [])) fp E) Y σ' H' s'/\tn i s'.heap/\(∀ b ∈ fp,H' b=none)/\W i n σ' H') (λn s5 hI=>?_) m0 ⟨0,_,_,I4,st4,λb hb=>(f3 b hb).1,w0⟩;show wpAny _ _ ((compTurn (.ListComp elt [⟨tgt,iter,ifs,0⟩] scope pos) 0 (.ref it) (.ref D) (compEnvC scope cl s3.heap.objs.size X.env)).onRaise (λx=>do noteFrame x (compEnvC scope cl s3.heap.objs.size X.env);theTreesLotGoes x)) _ _ s5;refine wpAny_noted ?_;refine pM (ht s3 (upd H2 D (.lst [])) fp).1 ?_;have bad:=qM (scope:=scope) (cl:=cl) (xs:=xs) (fr:=fr) (P:=EP X Y U Q) (use:=none) (D:=D) hx I3 f3;obtain⟨i,σ5,H5,I5,st5,fr5,w5⟩:=hI;rcases turn i n σ5 H5 w5 with⟨stop,q⟩|⟨go,Nn,hN,step⟩
  .refine aG (T.done (fe X scope cl (xs++fr) s3 (upd H2 D (.lst [])) fp E) rfl rfl rfl hc i _ s5 σ5 H5 _ I5 (stat fr5) st5 stop) λr s6 ⟨hr,I6⟩=>?_
   subst hr;obtain⟨m,hn,_⟩:=I6.loc;refine⟨m,hn,λh'' hs''=>⟨.ref D,H5,I3.pZ (ch:=fp) I6.os (I6.base.sameBut hs'' (s0 _)) (λb ob e=>?_) I6.bare λb hb=>⟨(f3 b hb).2.2.2.1,(f3 b hb).2.1,(f3 b hb).2.2.2.2.1,(f3 b hb).2.2.2.2.2⟩,rfl,q⟩⟩;refine(I6.hok b ob e).d9 (λc w' hc' q'=>(hs''.2 c ?_).trans q') (λ_ q'=>q') λ_ _ q'=>q'
   have fC:H5 s3.heap.objs.size=none:=I6.free;intro z;rcases hc' with z2|z2
   .rw[z2]at z;rw[z,fC]at e;cases e
   .rw[z,fC]at z2;cases z2
  .have fin:∀ {σ8:St}{H10:Hp}{s10:Shared},Inv (fe X scope cl (xs++fr) s3 (upd H2 D (.lst [])) fp E) Y σ8 H10 s10/\tn (i+1) s10.heap/\(∀ b ∈ fp,H10 b=none)->Nn σ8 H10->∃ m',m'<n/\∃ i σ' H',Inv (fe X scope cl (xs++fr) s3 (upd H2 D (.lst [])) fp E) Y σ' H' s10/\tn i s10.heap/\(∀ b ∈ fp,H' b=none)/\W i m' σ' H':=λ⟨I,t,f⟩ nn=>by
    obtain⟨m',hm,w10⟩:=hN _ _ nn;exact⟨m',hm,i+1,_,_,I,t,f,w10⟩
   refine aG (T.item (fe X scope cl (xs++fr) s3 (upd H2 D (.lst [])) fp E) rfl rfl rfl hc i _ s5 σ5 H5 _ I5 (stat fr5) st5 go) λr s6 ⟨u,hr,h6⟩=>?_
   subst hr;refine aG h6 λ_ s7 ⟨xv,H7,I7,r7,y7,st7,fr7⟩=>?_
   have I7':=I7.pinned (stat fr7) (T.obj _ _ st7);refine wpAny_mono (hg s3 _ fp _ s7 σ5 H7 xv u _ I7' r7 (step xv _ y7)) (λ_ s8 ⟨σ8,H8,I8,q8⟩=>?_) bad;refine wpAny_mono ((ht s3 _ fp).2 _ s8 σ8 H8 _ I8 q8) (λok s9 ⟨H9,I9,q9⟩=>?_) bad;have back:∀ {H10:Hp}{s10:Shared},Inv (fe X scope cl (xs++fr) s3 (upd H2 D (.lst [])) fp E) _ σ8 H10 s10->Inv (fe X scope cl (xs++fr) s3 (upd H2 D (.lst [])) fp E) Y σ8 H10 s10/\tn (i+1) s10.heap/\(∀ b ∈ fp,H10 b=none):=λ{H10 s10} I10=>⟨I10.dC,T.keep _ _ _ st7 λb hb o e=>(I10.pin (b,o) (jp _ (jp _ (bw hb e)))).1,λb hb=>by
    obtain⟨o,e,d⟩:=T.obj _ _ st7 b hb;exact(I10.pin (b,o) (jp _ (jp _ (bw hb e)))).2.1⟩
   refine⟨λek=>?_,λek=>bd ⟨rfl,fin (back I9) (q9.2 ek)⟩⟩;refine wpAny_mono (he s3 _ fp _ s9 _ _ _ I9 (q9.1 ek)) (λuv s10 ⟨vv,H10,I10,r10,zs,hz,hzl,n10⟩=>?_) bad;refine wpAny_mono (gB (X:=fe X scope cl (xs++fr) s3 (upd H2 D (.lst [])) fp E) _ s10 _ H10 (.ref D) [vv] (.ref D) [uv] (λ_ H'=>H'=upd H10 D (.lst (zs++[vv]))) I10 rfl (.cons r10 .nil) ⟨D,zs,vv,rfl,rfl,hz,hzl,rfl⟩) (λ_ s11 ⟨_,H11,I11,_,e11⟩=>?_) bad;subst e11;exact bd ⟨rfl,fin (back I11) n10⟩
 exact codeAny_compStart_list loop (T.self _ 0 _ _ _ st4 loop)
def lj {x:Str}{px:Pos}(S:aZ X scope cl [x] fr sel):PG (fe X scope cl ([x]++fr) s H fp E) (.Name x px) (fO 0):=fQ S.nd rfl (.inl (lookup_relabel_local (S.own x (lw ..)))) (.inr (lookup_relabel_local (S.own x (lw ..))))
abbrev G6 (wi:TI):TI:=λU H R=>∃ R0:It->Hp->Prop,wi U H R0/\∀ J H,R0 J H->R J H
def PI.up {tg iter:Expr}{wi:TI}(h:PI X tg iter wi):PI X tg iter (G6 wi):=λY s U H R I ⟨R0,q,m⟩=>
 aG (h Y s U H R0 I q) λv s1 h1=>wpAny_mono h1 (λitv s2 ⟨it,fp,tn,J,H',e,I,T,t0,f,r⟩=>⟨it,fp,tn,J,H',e,I,T,t0,f,m _ _ r⟩) λ_ _ e=>e
def uW {elt iter:Expr}{x:Str}{px:Pos}{wi:TI}(hc:X.calm=true)(hx:ke X U E)(S:aZ X scope cl [x] fr sel)(hi:PI X (.Name x px) iter wi)
  (he:∀ (s:Shared) (H:Hp) (fp:List Addr),PE (fe X scope cl (x::fr) s H fp E) elt te) (hs:∀ x,foldedSetIterable iter X.env x=pure x):Gb X U (.ListComp elt [⟨.Name x px,iter,[],0⟩] scope pos) (Gw wi te sel):=λY s H Q I h=>
 jT (tg:=fO 0) hc hx S hi.up (λs H fp=>lj S) (λ_ _ _=>kE) he hs Y s H Q I ⟨_,h,λ_ _ q=>q.g⟩
end
section
variable {U:St}{H:Hp}{Q:VK}{te tl:TE}{ta:TA}{sel:List Nat}{σ₀ rest:St}{K:W.Frag}
end
def c6 {env:Env}:∀ {names:List (Str×NameKind)}{y:Str}{k':NameKind},(names.map λ(n,k)=>if(k ==NameKind.free&&env.scope.kind ==.function&&env.kindOf n ==some .cell) then(n,NameKind.cell) else(n,k)).lookup y=some k'->∃ k,(y,k) ∈ names/\(k'=k\/(k=.free/\k'=.cell))
 | [],_,_,h=>by simp at h
 |(n,k)::r,y,k',h=>by
  rw[map_cons,lookup_cons]at h
  by_cases hc:(k ==NameKind.free&&env.scope.kind ==.function&&env.kindOf n ==some .cell)=true
  .simp only[hc,if_true]at h
   by_cases e:y=n
   .subst e;simp at h;simp at hc;exact⟨k,lw,.inr ⟨hc.1.1,h.symm⟩⟩
   .rw[show(y ==n)=false from beq_eq_false_iff_ne.mpr e]at h;obtain⟨k2,m,q⟩:=c6 (env:=env) h;exact⟨k2,f8 _ m,q⟩
  .rw[Bool.not_eq_true]at hc;simp only[hc,Bool.false_eq_true,if_false]at h
   by_cases e:y=n
   .subst e;simp at h;exact⟨k,lw,.inl h.symm⟩
   .simp only[show(y ==n)=false from beq_eq_false_iff_ne.mpr e]at h;obtain⟨k2,m,q⟩:=c6 (env:=env) h;exact⟨k2,f8 _ m,q⟩
section
variable {K:W.Frag}
end
section
variable {K:W.Frag}{H:Hp}
end
section
variable {U:St}{H:Hp}{Q:VK}
end
abbrev notStar:Expr->Bool
 | .Starred ..=>false
 |_=>true
variable {es:List Expr}
def ag {e:Expr}{env:Env}(h:notStar e=true):bv (e::es) env=(false,eval e env)::bv es env:=by
 cases e<;>first|rfl|cases h
def rZ {e:Expr}{t:TA}(ha:PE X e te)(hr:PA X es t)(h:notStar e=true:=by rfl):PA X (e::es) (Ac te t):=yx ha hr (ag h)
section
variable {X:Cx}{Y:HD}{U:St}{H:Hp}{s:Shared}{h':Heap}
def Inv.vj {t':Nat}{ch:List Addr}{a:Addr}{o:HO}(I:Inv X Y U H s)(k:∀ b u,b ∉ ch->s.heap.get? b=some u->h'.get? b=some u) (hf:∀ b ∈ ch,gG X Y H b)
  (hp:s.heap.objs.size<=a) (new:aJ X.prog X.w (upd H a o) h' a o):Inv X Y U (upd H a o) { s with heap:=h',toks:=t' }:=by
 have hn:H a=none:=I.hok.fresh hp;have nch:∀ b u,H b=some u->b ∉ ch:=λb u e z=>by rw[(hf b z).1]at e;cases e
 refine I.step (g':=s.gens) (d':=s.drawn) (ch:=ch) (λb hb=>?_) (λb o _ _ hc e _=>k b o hc e) (λb o _ _ hc e _=>⟨o.slots,k b o hc e⟩) (λb o hc e n=>?_)
  (λb o hc e=>⟨o,k b o hc e⟩) (λb xs e=>?_) (λb ob u e=>?_) (λb ps e=>?_) (λm hm=>?_) (λb u e=>?_) I.bare
 .obtain⟨_,f1,_,f3,f4,f5⟩:=hf b hb;exact⟨f3,f1,f4,f5⟩
 .rw[af (re (pc (ul e) hp))];exact n
 .rw[af (aK e hn)];exact e
 .rw[af (aK e hn)];exact e
 .exact⟨#[],by rw[af (aK e hn),e];simp⟩
 .obtain⟨o,es,ep,ho,r⟩:=hm;exact⟨o,es,ep,k _ o (λz=>(hf _ z).2.1 rfl) ho,r⟩
 .by_cases hb:b=a
  .subst hb;rw[aA]at e;cases e;exact new
  .rw[af hb]at e;refine(I.hok b u e).d9 (λc v hc q=>k c v ?_ q) (λc q=>by rw[af (aK q hn)];exact q) λc xs q=>by rw[af (aK q hn)];exact q
   rcases hc with rfl|hc
   .exact nch _ _ e
   .exact nch _ _ hc
end
abbrev Er (l:Addr):It:=
 ⟨λi H=>∃ xs x,H l=some (.lst xs)/\xs[i]? =some x,λi H x H'=>∃ T y,H T=none/\x=.ref T/\H'=upd H T (.tup [.int i,y])/\∀ xs,H l=some (.lst xs)->xs[i]? =some y,λi H=>∃ xs,H l=some (.lst xs)/\xs.length<=i⟩
variable {elts:List Expr}
def sZ {P:Program}{w:World}{K:W.Frag}{k:Nat}(l e it:Addr)(hei:e≠it):
  Turn P w K (.Tuple elts k pos) (Er l) [e,it] e (λi h=>(∃ old,IsEnum h e it ((i:Nat):Int) old)/\h.IsListIter it l i) where
 mem:=by simp
 obj:=λi h st b hb=>by
  obtain⟨⟨old,he⟩,hit⟩:=st;rcases mo.mp hb with rfl|hb
  .exact⟨_,he,λv z=>by
    have z':Data.fields _=Data.cell v:=z;cases z'⟩
  .have e':b=it:=by simpa using hb
   subst e';obtain⟨o,e,c,d⟩:=hit;exact⟨o,e,λv z=>by rw[d]at z;cases z⟩
 keep:=λi h h' st k=>by
  obtain⟨⟨old,he⟩,hit⟩:=st;exact⟨⟨old,k e (by simp) _ he⟩,hit.at λo q=>k it (by simp) o q⟩
 item:=by
  intro X hP hw hK hc i Y s U H E I hf st hg;subst hP hw hK;obtain⟨xs,x,hq,hx⟩:=hg;obtain⟨⟨old,he⟩,hit⟩:=st;obtain⟨its,rv,p,hz⟩:=I.list (aV.of hq);obtain⟨u,hu,ru⟩:=rv.get hx;have heN:H e=none:=(hf e (by simp)).1;have hes:e≠s.heap.objs.size:=re (ul he);obtain⟨oi,hoi,_⟩:=id hit;have his:it≠s.heap.objs.size:=re (ul hoi);refine wpAny_pyNext_enum_item he hit p.isList (x:=u) (by simpa using hu) hei λh1 heo hit1 ht1 hz1 hk1=>?_
  have I1:Inv X Y U (upd H s.heap.objs.size (.tup [.int i,x])) { s with heap:=h1,toks:=s.toks+1 }:=
   I.vj (ch:=[e,it]) (λb o hb q=>hk1 b o (λz=>hb (by simp[z])) (λz=>hb (by simp[z])) q) hf (s0 _)
    ⟨fits (pi rfl),[.int i s.toks,u],.cons ⟨_,rfl⟩ (.cons ru .nil),⟨_,ht1,rfl,_,rfl⟩⟩
  refine⟨_,rfl,wpAny_letOwnedTupleGo_enum heo λh2 he2 hs2=>?_⟩;obtain⟨f0,f1,f2,f3,f4,f5⟩:=hf e (by simp);have I2:=I1.turned (h':=h2) (t':=s.toks+1) (it:=e) (λb o hb q=>(hs2.2 b hb).trans q) (by rw[af hes];exact heN) f1 f3 f4 f5;refine⟨.ref s.heap.objs.size,_,I2,rfl,⟨_,x,I.hok.fresh (s0 _),rfl,rfl,λys hy=>?_⟩,⟨⟨_,by simpa using he2⟩,hit1.at λo q=>(hs2.2 it hei.symm).trans q⟩,λb hb=>?_⟩
  .rw[hq]at hy;cases hy;exact hx
  .have hb':b≠s.heap.objs.size:=by
    rcases mo.mp hb with rfl|hb
    .exact hes
    .have e':b=it:=by simpa using hb
     subst e';exact his
   rw[af hb'];exact(hf b hb).1
 done:=by
  intro X hP hw hK hc i Y s U H E I hf st hg;subst hP hw hK;obtain⟨xs,hq,hx⟩:=hg;obtain⟨⟨old,he⟩,hit⟩:=st;obtain⟨its,rv,p,hz⟩:=I.list (aV.of hq);obtain⟨f0,f1,f2,f3,f4,f5⟩:=hf it (by simp);have hl:=rv.length;exact wpAny_pyNext_enum_end (I.ok.hd hc) he hit p.isList (by simp;omega) λh' eb=>⟨rfl,I.turned (t':=s.toks) (λb o hb q=>eb b o hb q) f0 f1 f3 f4 f5⟩
 self:=λ_ _ _ _ _ st h=>by
  obtain⟨⟨old,he⟩,hit⟩:=st;exact wpAny_pyIter_enum he h
def lX:bootBuiltins "enumerate"=some (.type "enumerate"):=by decide+kernel
abbrev DZ (ta:TA):TI:=λU H R=>ta U H λvs H1=>∃ l,vs=[.ref l]/\(∃ xs,H1 l=some (.lst xs))/\R (Er l) H1
def yg {k:Nat}{a:Expr}{ta:TA}{p pos':Pos}(hg:Gl X "enumerate") (hm:X.mg "enumerate"=none) (ha:PA X [a] ta) (hs:bv [a] X.env=[(false,eval a X.env)]:=by rfl):
  PI X (.Tuple elts k pos') (.Call (.Name "enumerate" p) [a] [] pos) (DZ ta):=by
 intro Y s U H R I h;refine Call_ (jb I hg hm lX (PyProof.Rows.callWith_type1 (aG (ha pos Y s U H _ I h) λus s1 ⟨vs,H1,I1,r1,q1⟩=>?_) hs rfl));obtain⟨l,e,⟨xs,hl⟩,q⟩:=q1;subst e;cases r1 with
 |cons r rr=>
  cases rr;cases r;obtain⟨z,its,n,r,hlen,e⟩:=I1.n5 hl;refine call_enumerate_1 e λh' he hit hsz hk=>?_
  refine wpAny_pyIter_enum he ?_;refine⟨s1.heap.objs.size+1,[s1.heap.objs.size+1,s1.heap.objs.size],_,_,H1,rfl,I1.kept (t':=s1.toks) hk,sZ l _ _ (Nat.succ_ne_self _),⟨⟨_,he⟩,hit⟩,λb hb=>?_,q⟩;have hb':s1.heap.objs.size<=b:=by
   rcases mo.mp hb with rfl|hb
   .exact Nat.le_succ _
   .have e':b=s1.heap.objs.size:=by simpa using hb
    exact Nat.le_of_eq e'.symm
  exact I1.u7 hb' (I1.hok.fresh hb')
section
variable {g:TG}{tb:TS}{D:Ends}{U:St}{H:Hp}{ta:TA}
end
section
variable {X:Cx}
abbrev zp:V->List V->Hp->VK->Prop:=λx vs H Q=>∃ l xs i y,x=.ref l/\vs=[.int i,y]/\H l=some (.lst xs)/\0<=i/\i<=xs.length/\xs.length<ce/\Q .non (upd H l (.lst (xs.take i.toNat++y::xs.drop i.toNat)))
def Vals.take':∀ {xs:List V}{us:List Value}(n:Nat),Vals xs us->Vals (xs.take n) (us.take n)
 |_,_,0,_=>by simpa using Paired.nil
 |_,_,n+1,.nil=>.nil
 |_,_,n+1,.cons r t=>.cons r (Vals.take' n t)
def Vals.drop':∀ {xs:List V}{us:List Value}(n:Nat),Vals xs us->Vals (xs.drop n) (us.drop n)
 |_,_,0,r=>r
 |_,_,n+1,.nil=>.nil
 |_,_,n+1,.cons r t=>Vals.drop' n t
def rj:FD X "list.insert" zp:=by
 intro Y s U H x vs v us Q I rx rv h;obtain⟨l,xs,i,y,rfl,rfl,hH,h0,h1,hz,q⟩:=h;cases rx;obtain⟨u,u2,rfl,ru,ru2⟩:=vals2 rv;obtain⟨t,rfl⟩:=ru;obtain⟨z,its,n,r,hl,e⟩:=I.n5 hH;have hk:i.toNat<=its.length:=by omega
 have hn:=dv;have hfit:¬ (!Builtin.List.listFitsIndex i)=true:=by
  rw[fitsIndex_both (k:=i) nofun nofun]
  decide
 have hsz:its.toArray.size<=ce:=by rw[io];omega
 have hmt:=AutoSeq1.list_insert_list_int_val_1 l its.toArray n i t u2 hfit hsz;refine call_meets F.slot_list_insert ⟨_,e,rfl⟩ F.entry_list_insert (F.args_list_insert_3 _ _ _) hmt ⟨e,?_⟩;refine⟨.non,_,I.BV (its':=its.take i.toNat++u2::its.drop i.toNat) hH e ?_ ?_ ?_,rfl,q⟩
 .have ek:(if i<0 then(i+(its.toArray.size:Int)).toNat else min i.toNat its.toArray.size)=i.toNat:=by
   rw[if_neg nofun,io];exact Nat.min_eq_left hk
  show((its.toArray.extract 0 (if i<0 then(i+(its.toArray.size:Int)).toNat else min i.toNat its.toArray.size)).push u2++its.toArray.extract (if i<0 then(i+(its.toArray.size:Int)).toNat else min i.toNat its.toArray.size))=_;rw[ek];apply Array.ext';simp;exact take_of_length_le (by rw[lf];omega)
 .exact(Vals.take' i.toNat r).append (.cons ru2 (Vals.drop' i.toNat r))
 .rw[db,length_cons,dL,lf]
  omega
end
section
variable {K:W.Frag}{r:V->List V->Hp->VK->Prop}{to:TE}{t:TA}{U:St}{H:Hp}{Q:VK}
end
section
variable {H H1 H2:Hp}{p h c:Addr}{o:HO}{m:Int}
end
section
variable {H H':Hp}{xs ys:List V}{f:Nat->Int×Int}
end
section
variable {X:Cx}{a b c d:Expr}{ta tb tc td:TE}{pos:Pos}
end
section
variable {K:W.Frag}{U:St}{H:Hp}{Q:VK}{ta tb tc td tv:TE}{t:TA}{f m:Str}{D:Ends}{C:Addr}{sp:Sp}{dvs:List V}{E:XK}
end
section
variable {g:TG}{tb:TS}{D:Ends}{U:St}{H:Hp}{ta:TA}
end
section
variable {C:Addr}{H H':Hp}{S D h c:Addr}{rs:List Rec}{r:Rec}
end
section
variable {X:Cx}
end
end L2
namespace L2
end L2
namespace L2
open PySem PySem.Spec PyProof.Rows
section
variable {C:Addr}{H HF:Hp}{S D h c:Addr}{rs:List Rec}{r':Rec}
end
section
variable {X:Cx}
end
structure FV (K:W.Frag) (C:Addr):Prop where
 ha:W.findIn K (.ref C) "__class__"=some (some (.builtin "object.__class__"))
 hn:W.specialIn K (.builtin "object.__class__") "__get__"=some (some (.builtin "getset_descriptor.__get__"))
 htk:W.takesIn K (.builtin "object.__class__")=some true
 hm:W.mroIn K C (.type "object")=some true
end L2
namespace L2
open PySem PySem.Spec PySem.W PyProof.Rows
abbrev bp (tp:Bool)(h:Heap)(j b:Addr)(k:Nat):Prop:=match tp with
 |true=>h.IsTupleIter j b k
 |false=>h.IsListIter j b k
abbrev cq (tp:Bool)(h:Heap)(b:Addr)(xs:Array Value):Prop:=match tp with
 |true=>h.IsTuple b xs
 |false=>h.IsList b xs
variable {tp:Bool}{h:Heap}{b:Addr}{k:Nat}
def bp.to {h':Heap}{j:Addr}(g:bp tp h j b k)(e:∀ o,h.get? j=some o->h'.get? j=some o):bp tp h' j b k:=by
 cases tp
 .obtain⟨o,e1,r⟩:=(show h.IsListIter j b k from g);exact⟨o,e o e1,r⟩
 .obtain⟨o,e1,r⟩:=(show h.IsTupleIter j b k from g);exact⟨o,e o e1,r⟩
variable {xs:Array Value}
def cq.to {h':Heap}(g:cq tp h b xs)(e:∀ o,h.get? b=some o->h'.get? b=some o):cq tp h' b xs:=by
 cases tp
 .obtain⟨o,e1,r⟩:=(show h.IsList b xs from g);exact⟨o,e o e1,r⟩
 .obtain⟨o,e1,r⟩:=(show h.IsTuple b xs from g);exact⟨o,e o e1,r⟩
def bp.lt {j:Addr}(g:bp tp h j b k):j<h.objs.size:=by
 cases tp
 .obtain⟨o,e1,r⟩:=(show h.IsListIter j b k from g);exact ul e1
 .obtain⟨o,e1,r⟩:=(show h.IsTupleIter j b k from g);exact ul e1
def cq.lt (g:cq tp h b xs):b<h.objs.size:=by
 cases tp
 .obtain⟨o,e1,r⟩:=(show h.IsList b xs from g);exact ul e1
 .obtain⟨o,e1,r⟩:=(show h.IsTuple b xs from g);exact ul e1
variable {Q:Option Value->Shared->Prop}{T:Int}{t:Tok}{fb:Bool}{oT:Obj}
section
variable {prog:Program}{w:World}{A:Around}{E:HC}{s:Shared}
def Cf {j:Addr}{x:Value}{Q:HC}(g:s.heap.IsTupleIter j b k)(t:s.heap.IsTuple b xs)(hx:xs[k]? =some x)
  (q:∀ h',h'.IsTupleIter j b (k+1)->Heap.SameBut j s.heap h'->Q x { s with heap:=h' }):wpAny (model prog w) A (Builtin.SmallTypes.nextOf (.ref j)) Q E s:=by
 obtain⟨o1,e1,c1,d1⟩:=id g;obtain⟨o2,e2,_,n2,d2⟩:=t;unfold Builtin.SmallTypes.nextOf;refine ap (wpAny_callSpecial?_slot (name:=Str.ofString "__next__") g.typeIs F.slot_tuple_iterator_next (wpAny_call_entry F.slot_tuple_iterator_next g.typeIs F.entry_tuple_iterator_next ?_ (F.args_tuple_iterator_next_1 _)));show wpAny _ _ (field (.ref j) 0 >>= _) _ _ s;refine ap (bi e1 d1 (x:=.ref b) rfl ?_);show wpAny _ _ (if(Value.ref b ==Value.none)=true then _ else _) _ _ s;rw[if_neg (show ¬ ((Value.ref b ==Value.none)=true) from Bool.false_ne_true)];show wpAny _ _ (field (.ref j) 1 >>= _) _ _ s;refine ap (bi e1 d1 (x:=.int k 0) rfl ?_);show wpAny _ _ (seqItems? (.ref b) >>= _) _ _ s;refine ap (wpAny_seqItems e2 d2 ?_);simp only[ss,hx];refine ap (wpAny_setField e1 d1 (by simp) (bd ⟨x,rfl,bd (q _ ?_ (Heap.SameBut.update ..))⟩));refine⟨_,Heap.get?_update_self _ e1 (Obj.isFreed_of_fields (Obj.data_mapFields d1 _)),(Obj.cls_mapFields ..).trans c1,?_⟩;rw[Obj.data_mapFields d1];simp[rawInt]
def xY {j:Addr}{Q:HC}(hh:A.handled=none)(g:s.heap.IsTupleIter j b k)(t:s.heap.IsTuple b xs)(hx:xs[k]? =none)
  (q:∀ h' e,Heap.ExtBut j s.heap h'->(∃ o,h'.get? e=some o/\o.cls=.type "StopIteration")->E (.ref e) { s with heap:=h' }):wpAny (model prog w) A (Builtin.SmallTypes.nextOf (.ref j)) Q E s:=by
 obtain⟨o1,e1,c1,d1⟩:=id g;obtain⟨o2,e2,_,n2,d2⟩:=t;unfold Builtin.SmallTypes.nextOf;refine ap (wpAny_callSpecial?_slot (name:=Str.ofString "__next__") g.typeIs F.slot_tuple_iterator_next (wpAny_call_entry F.slot_tuple_iterator_next g.typeIs F.entry_tuple_iterator_next ?_ (F.args_tuple_iterator_next_1 _)));show wpAny _ _ (field (.ref j) 0 >>= _) _ _ s;refine ap (bi e1 d1 (x:=.ref b) rfl ?_);show wpAny _ _ (if(Value.ref b ==Value.none)=true then _ else _) _ _ s;rw[if_neg (show ¬ ((Value.ref b ==Value.none)=true) from Bool.false_ne_true)];show wpAny _ _ (field (.ref j) 1 >>= _) _ _ s;refine ap (bi e1 d1 (x:=.int k 0) rfl ?_);show wpAny _ _ (seqItems? (.ref b) >>= _) _ _ s;refine ap (wpAny_seqItems e2 d2 ?_);simp only[ss,hx];refine ap (wpAny_rule (ap (wpAny_setField e1 d1 (by simp) ?_)));show wpAny _ _ (newExc (.type "StopIteration") [] >>= _) _ _ _;refine ap ?_;simp only[newExc,newTuple];refine ap (wpAny_newObj_type ?_ (by size_fits));refine ap (m:=firstArgMember _ _) (wpAny_of_eq (a:=Value.none) (by first|rfl|(simp only[firstArgMember];rfl)) ?_);refine wpAny_newObj_type ?_ (by size_fits);simp only[raiseNew];refine ap (wpAny_handled ?_);first|rw[show A.in1.handled=none from hh]|rw[hh]
 refine ap (bd (wpAny_throw ?_));exact q _ _ (((Heap.SameBut.update ..).extBut.push _).push _) ⟨_,ut _ rfl,rfl⟩
def d4 {j:Addr}{x:Value}{Q:HC}(g:bp tp s.heap j b k)(t:cq tp s.heap b xs)(hx:xs[k]? =some x)
  (q:∀ h',bp tp h' j b (k+1)->Heap.SameBut j s.heap h'->Q x { s with heap:=h' }):wpAny (model prog w) A (Builtin.SmallTypes.nextOf (.ref j)) Q E s:=by
 cases tp
 .exact wpAny_nextOf_list_item g t hx q
 .exact Cf g t hx q
def k7 {j:Addr}{Q:HC}(hh:A.handled=none)(g:bp tp s.heap j b k)(t:cq tp s.heap b xs)(hx:xs[k]? =none)
  (q:∀ h' e,Heap.ExtBut j s.heap h'->(∃ o,h'.get? e=some o/\o.cls=.type "StopIteration")->E (.ref e) { s with heap:=h' }):wpAny (model prog w) A (Builtin.SmallTypes.nextOf (.ref j)) Q E s:=by
 cases tp
 .exact wpAny_nextOf_list_end hh g t hx q
 .exact xY hh g t hx q
@[reducible]def cy (h:Heap) (z TI TO:Addr) (f0 f1:Value):Prop:=h.get? z=some { cls:=.type "zip",dict:=none,data:=.fields #[f0,f1,.bool false,.ref TI,.ref TO],slots:=#[] }
variable {z TI TO i1 i2 l1 l2:Addr}{k1 k2:Nat}{tp1 tp2:Bool}{xs ys:Array Value}{x y a b f1:Value}
def yH (D:ZipApart z TI TO i1 i2 l1 l2)(hz:cy s.heap z TI TO .none f1)(hI:IsPair s.heap TI (.ref i1) (.ref i2))(hO:IsPair s.heap TO a b)
  (g1:bp tp1 s.heap i1 l1 k1) (g2:bp tp2 s.heap i2 l2 k2) (t1:cq tp1 s.heap l1 xs) (t2:cq tp2 s.heap l2 ys) (hx:xs[k1]? =some x) (hy:ys[k2]? =some y)
  (q:∀ h',cy h' z TI TO (rawInt s.heap.objs.size) (.bool false)->IsPair h' TO x y->bp tp1 h' i1 l1 (k1+1)->bp tp2 h' i2 l2 (k2+1)->IsPair h' s.heap.objs.size x y->h'.objs.size=s.heap.objs.size+1->
   (∀ c o,c≠z->c≠TO->c≠i1->c≠i2->s.heap.get? c=some o->h'.get? c=some o)->Q (some (.ref s.heap.objs.size)) { s with heap:=h' }):wpAny (model prog w) A (pyNext (.ref z)) Q E s:=by
 have hZ:s.TypeIs (.ref z) "zip":=⟨_,hz,rfl⟩;unfold pyNext;refine ap (wpAny_attempt (wpAny_callSpecial?_slot (name:=Str.ofString "__next__") hZ F.slot_zip_next (wpAny_call_entry F.slot_zip_next hZ F.entry_zip_next ?_ (F.args_zip_next_1 _))));show wpAny _ _ (field (.ref z) 2 >>= _) _ _ _;refine ap (bi (x:=.bool false) hz rfl rfl ?_);show wpAny _ _ (field (.ref z) 3 >>= _) _ _ _;refine ap (bi (x:=.ref TI) hz rfl rfl ?_);refine ap (wpAny_seqItems hI rfl ?_);show wpAny _ _ (Builtin.SmallTypes.ownedTupleIsFree (.ref z) >>= _) _ _ _;refine ap ?_;unfold Builtin.SmallTypes.ownedTupleIsFree;refine ap (bi (x:=.none) hz rfl rfl (bd ?_));simp only[if_true];refine ap (wpAny_rule ?_);refine ap (bi (x:=.ref TO) hz rfl rfl ?_);refine ap (wpAny_setField_rec hz (by simp) λp1 z1 b1=>?_)
 replace z1:cy p1 z TI TO .ellipsis f1:=z1
 refine ap ?_;simp only[List.zipIdx_cons,List.zipIdx_nil,forIn_cons,forIn_nil];refine ap (ap (wpAny_onRaise ?_));show wpAny _ _ (Builtin.SmallTypes.nextOf (.ref i1) >>= _) _ _ _;refine ap (d4 (g1.to λo e=>b1.extBut _ o D.i1z e) (t1.to λo e=>b1.extBut _ o D.l1z e) hx λp2 g1b b2=>bd ?_);have hO2:IsPair p2 TO a b:=b2.extBut _ _ D.TOi1 (b1.extBut _ _ D.TOz hO);refine ap (wpAny_seqItems hO2 rfl ?_);refine ap (wpAny_updateSeq_pair hO2 λp3 hO3 b3=>?_)
 replace hO3:IsPair p3 TO x b:=hO3
 refine ap (wpAny_letGo (bd ?_));refine ap (ap (wpAny_onRaise ?_));show wpAny _ _ (Builtin.SmallTypes.nextOf (.ref i2) >>= _) _ _ _;refine ap (d4 (g2.to λo e=>b3.extBut _ o D.TOi2.symm (b2.extBut _ o D.i12.symm (b1.extBut _ o D.i2z e))) (t2.to λo e=>b3.extBut _ o D.l2TO (b2.extBut _ o D.l2i1 (b1.extBut _ o D.l2z e))) hy λp4 g2b b4=>bd ?_);have hO4:IsPair p4 TO x b:=b4.extBut _ _ D.TOi2 hO3;refine ap (wpAny_seqItems hO4 rfl ?_);refine ap (wpAny_updateSeq_pair hO4 λp5 hO5 b5=>?_)
 replace hO5:IsPair p5 TO x y:=hO5
 refine ap (wpAny_letGo (bd (bd ?_)));refine ap (wpAny_seqItems hO5 rfl ?_);refine ap (wpAny_newTuple ?_);have hsz:p5.objs.size=s.heap.objs.size:=by rw[b5.1,b4.1,b3.1,b2.1,b1.1]
 have z5:cy p5 z TI TO .ellipsis f1:=b5.extBut _ _ D.TOz.symm (b4.extBut _ _ D.i2z.symm (b3.extBut _ _ D.TOz.symm (b2.extBut _ _ D.i1z.symm z1)));have k5:∀ c o,c≠z->c≠TO->c≠i1->c≠i2->s.heap.get? c=some o->p5.get? c=some o:=λc o n1 n2 n3 n4 e=>b5.extBut _ _ n2 (b4.extBut _ _ n4 (b3.extBut _ _ n2 (b2.extBut _ _ n3 (b1.extBut _ _ n1 e))))
 have g15:bp tp1 p5 i1 l1 (k1+1):=g1b.to λo e=>b5.extBut _ o D.TOi1.symm (b4.extBut _ o D.i12 (b3.extBut _ o D.TOi1.symm e))
 have g25:bp tp2 p5 i2 l2 (k2+1):=g2b.to λo e=>b5.extBut _ o D.TOi2.symm e
 have zlt:z<p5.objs.size:=ul z5;show wpAny _ _ (Builtin.SmallTypes.ownedTupleHandOut (.ref z) (.ref p5.objs.size) >>= _) _ _ _;refine ap ?_;unfold Builtin.SmallTypes.ownedTupleHandOut;have z6:cy (p5.push { cls:=.type "tuple",data:=.seq #[x,y] }) z TI TO .ellipsis f1:=u8 _ z5;refine ap (wpAny_setField_rec z6 (by simp) λp7 z7 b7=>?_)
 replace z7:cy p7 z TI TO (rawInt p5.objs.size) f1:=z7
 refine wpAny_setField_rec z7 (by simp) λp8 z8 b8=>?_
 replace z8:cy p8 z TI TO (rawInt p5.objs.size) (.bool false):=z8
 have up:∀ c o,c≠z->p5.get? c=some o->p8.get? c=some o:=λc o n1 e=>b8.extBut _ _ n1 (b7.extBut _ _ n1 (u8 _ e))
 have hT:IsPair p8 p5.objs.size x y:=b8.extBut _ _ (Nat.ne_of_gt zlt) (b7.extBut _ _ (Nat.ne_of_gt zlt) (ut _ rfl));have h8:p8.objs.size=p5.objs.size+1:=by rw[b8.1,b7.1,Heap.size_push]
 rw[hsz]at z8 hT h8;refine bd ⟨_,rfl,?_⟩;rw[hsz];exact bd (q p8 z8 (up _ _ D.TOz hO5) (g15.to λo e=>up _ o D.i1z e) (g25.to λo e=>up _ o D.i2z e) hT h8 λc o n1 n2 n3 n4 e=>up c o n1 (k5 c o n1 n2 n3 n4 e))
def Co {Q:Fin->Shared->Prop}(hh:A.handled=none)(D:ZipApart z TI TO i1 i2 l1 l2)(hz:cy s.heap z TI TO .none f1)(hI:IsPair s.heap TI (.ref i1) (.ref i2))(hO:IsPair s.heap TO a b)
  (g1:bp tp1 s.heap i1 l1 k1) (g2:bp tp2 s.heap i2 l2 k2) (t1:cq tp1 s.heap l1 xs) (t2:cq tp2 s.heap l2 ys) (hx:xs[k1]? =none\/ys[k2]? =none)
  (q:∀ h' e,(∀ c o,c≠z->c≠TO->c≠i1->c≠i2->s.heap.get? c=some o->h'.get? c=some o)->(∃ o,h'.get? e=some o/\o.cls=.type "StopIteration")->E (.ref e) { s with heap:=h' }):
  wpAny (model prog w) A (Builtin.«zip.__next__» ⟨[.ref z],[]⟩) Q E s:=by
 show wpAny _ _ (field (.ref z) 2 >>= _) _ _ _;refine ap (bi (x:=.bool false) hz rfl rfl ?_);show wpAny _ _ (field (.ref z) 3 >>= _) _ _ _;refine ap (bi (x:=.ref TI) hz rfl rfl ?_);refine ap (wpAny_seqItems hI rfl ?_);show wpAny _ _ (Builtin.SmallTypes.ownedTupleIsFree (.ref z) >>= _) _ _ _;refine ap ?_;unfold Builtin.SmallTypes.ownedTupleIsFree;refine ap (bi (x:=.none) hz rfl rfl (bd ?_));simp only[if_true];refine ap (wpAny_rule ?_);refine ap (bi (x:=.ref TO) hz rfl rfl ?_);refine ap (wpAny_setField_rec hz (by simp) λp1 z1 b1=>?_)
 replace z1:cy p1 z TI TO .ellipsis f1:=z1
 refine ap ?_;simp only[List.zipIdx_cons,List.zipIdx_nil,forIn_cons,forIn_nil];refine ap (ap (wpAny_onRaise ?_));show wpAny _ _ (Builtin.SmallTypes.nextOf (.ref i1) >>= _) _ _ _;cases e1:xs[k1]? with
 |none=>
  refine ap (k7 hh (g1.to λo e=>b1.extBut _ o D.i1z e) (t1.to λo e=>b1.extBut _ o D.l1z e) e1 λp2 e b2 he=>?_);obtain⟨oe,ho,hc⟩:=he;have z2:cy p2 z TI TO .ellipsis f1:=b2 _ _ D.i1z.symm z1;have ne:e≠z:=λn=>by subst n;rw[z2]at ho;cases ho;simp at hc
  exact wpAny_setField_rec z2 (by simp) λp3 _ b3=>q p3 e (λc o n1 _ n3 _ v=>b3.extBut _ _ n1 (b2 _ _ n3 (b1.extBut _ _ n1 v))) ⟨oe,b3.extBut _ _ ne ho,hc⟩
 |some x=>
  have e2:ys[k2]? =none:=by rcases hx with h|h;(rw[e1]at h;cases h);exact h
  refine ap (d4 (g1.to λo e=>b1.extBut _ o D.i1z e) (t1.to λo e=>b1.extBut _ o D.l1z e) e1 λp2 g1b b2=>bd ?_);have hO2:IsPair p2 TO a b:=b2.extBut _ _ D.TOi1 (b1.extBut _ _ D.TOz hO);refine ap (wpAny_seqItems hO2 rfl ?_);refine ap (wpAny_updateSeq_pair hO2 λp3 hO3 b3=>?_);refine ap (wpAny_letGo (bd ?_));refine ap (ap (wpAny_onRaise ?_));show wpAny _ _ (Builtin.SmallTypes.nextOf (.ref i2) >>= _) _ _ _;refine ap (k7 hh (g2.to λo e=>b3.extBut _ o D.TOi2.symm (b2.extBut _ o D.i12.symm (b1.extBut _ o D.i2z e))) (t2.to λo e=>b3.extBut _ o D.l2TO (b2.extBut _ o D.l2i1 (b1.extBut _ o D.l2z e))) e2 λp4 e b4 he=>?_);obtain⟨oe,ho,hc⟩:=he;have z4:cy p4 z TI TO .ellipsis f1:=b4 _ _ D.i2z.symm (b3.extBut _ _ D.TOz.symm (b2.extBut _ _ D.i1z.symm z1));have ne:e≠z:=λn=>by subst n;rw[z4]at ho;cases ho;simp at hc
  exact wpAny_setField_rec z4 (by simp) λp5 _ b5=>q p5 e (λc o n1 n2 n3 n4 v=>b5.extBut _ _ n1 (b4 _ _ n4 (b3.extBut _ _ n2 (b2.extBut _ _ n3 (b1.extBut _ _ n1 v))))) ⟨oe,b5.extBut _ _ ne ho,hc⟩
def mF {c:Addr}{Q:Option Obj->Shared->Prop}(h:Q (s.heap.get? c) s):wpAny (model prog w) A (loadIfAlive c) Q E s:=λ_ _ _=>h
def mR {Q:Bool->Shared->Prop}(hz:cy s.heap z TI TO (.int T t) (.bool fb))(hT:s.heap.get? T.toNat=some oT)(q:∀ h',cy h' z TI TO (.int T t) (.bool true)->Heap.SameBut z s.heap h'->Q false { s with heap:=h' }):
  wpAny (model prog w) A (Builtin.SmallTypes.ownedTupleIsFree (.ref z)) Q E s:=by
 unfold Builtin.SmallTypes.ownedTupleIsFree;refine ap (bi (x:=.int T t) hz rfl rfl ?_);refine ap (mF ?_);rw[hT];refine ap (bi (x:=.bool fb) hz rfl rfl ?_);cases fb
 .refine ap (wpAny_setField_rec hz (by simp) λp1 z1 b1=>bd ?_);exact q p1 z1 b1
 .exact ap (bd (bd (q s.heap hz (Heap.SameBut.refl ..))))
def yK (D:ZipApart z TI TO i1 i2 l1 l2)(hz:cy s.heap z TI TO (.int T t) (.bool fb))(hT:s.heap.get? T.toNat=some oT)(hI:IsPair s.heap TI (.ref i1) (.ref i2))
  (g1:bp tp1 s.heap i1 l1 k1) (g2:bp tp2 s.heap i2 l2 k2) (t1:cq tp1 s.heap l1 xs) (t2:cq tp2 s.heap l2 ys) (hx:xs[k1]? =some x) (hy:ys[k2]? =some y)
  (q:∀ h',cy h' z TI TO (.int T t) (.bool true)->bp tp1 h' i1 l1 (k1+1)->bp tp2 h' i2 l2 (k2+1)->IsPair h' s.heap.objs.size x y->h'.objs.size=s.heap.objs.size+1->
   (∀ c o,c≠z->c≠i1->c≠i2->s.heap.get? c=some o->h'.get? c=some o)->Q (some (.ref s.heap.objs.size)) { s with heap:=h' }):wpAny (model prog w) A (pyNext (.ref z)) Q E s:=by
 have hZ:s.TypeIs (.ref z) "zip":=⟨_,hz,rfl⟩;unfold pyNext;refine ap (wpAny_attempt (wpAny_callSpecial?_slot (name:=Str.ofString "__next__") hZ F.slot_zip_next (wpAny_call_entry F.slot_zip_next hZ F.entry_zip_next ?_ (F.args_zip_next_1 _))));show wpAny _ _ (field (.ref z) 2 >>= _) _ _ _;refine ap (bi (x:=.bool false) hz rfl rfl ?_);show wpAny _ _ (field (.ref z) 3 >>= _) _ _ _;refine ap (bi (x:=.ref TI) hz rfl rfl ?_);refine ap (wpAny_seqItems hI rfl ?_);show wpAny _ _ (Builtin.SmallTypes.ownedTupleIsFree (.ref z) >>= _) _ _ _;refine ap (mR hz hT λp1 z1 b1=>?_);simp only[Bool.false_eq_true,if_false];simp only[List.forIn_toArray,forIn_cons,forIn_nil];refine ap (ap (ap (bm ?_)));show wpAny _ _ (Builtin.SmallTypes.nextOf (.ref i1) >>= _) _ _ _;refine ap (d4 (g1.to λo e=>b1.extBut _ o D.i1z e) (t1.to λo e=>b1.extBut _ o D.l1z e) hx λp2 g1b b2=>bd (bd ?_));dsimp only;refine ap (ap (bm ?_));show wpAny _ _ (Builtin.SmallTypes.nextOf (.ref i2) >>= _) _ _ _;refine ap (d4 (g2.to λo e=>b2.extBut _ o D.i12.symm (b1.extBut _ o D.i2z e)) (t2.to λo e=>b2.extBut _ o D.l2i1 (b1.extBut _ o D.l2z e)) hy λp3 g2b b3=>bd (bd (bd ?_)));dsimp only;refine ap (wpAny_newTuple ?_ (hsz:=fits (pi rfl)));have hsz:p3.objs.size=s.heap.objs.size:=by rw[b3.1,b2.1,b1.1]
 refine bd ⟨_,rfl,?_⟩;have z3:cy p3 z TI TO (.int T t) (.bool true):=b3.extBut _ _ D.i2z.symm (b2.extBut _ _ D.i1z.symm z1);rw[hsz];refine bd (q _ (u8 _ z3) (g1b.to λo e=>u8 _ (b3.extBut _ o D.i12 e)) (g2b.to λo e=>u8 _ e) (by rw[<-hsz];exact ut _ rfl) (by rw[Heap.size_push,hsz]) λc o n1 n2 n3 e=>?_);exact u8 _ (b3.extBut _ _ n3 (b2.extBut _ _ n2 (b1.extBut _ _ n1 e)))
def uN {Q:Fin->Shared->Prop}(hh:A.handled=none)(D:ZipApart z TI TO i1 i2 l1 l2)(hz:cy s.heap z TI TO (.int T t) (.bool fb))(hT:s.heap.get? T.toNat=some oT)(hI:IsPair s.heap TI (.ref i1) (.ref i2))
  (g1:bp tp1 s.heap i1 l1 k1) (g2:bp tp2 s.heap i2 l2 k2) (t1:cq tp1 s.heap l1 xs) (t2:cq tp2 s.heap l2 ys) (hx:xs[k1]? =none\/ys[k2]? =none)
  (q:∀ h' e,(∀ c o,c≠z->c≠i1->c≠i2->s.heap.get? c=some o->h'.get? c=some o)->(∃ o,h'.get? e=some o/\o.cls=.type "StopIteration")->E (.ref e) { s with heap:=h' }):
  wpAny (model prog w) A (Builtin.«zip.__next__» ⟨[.ref z],[]⟩) Q E s:=by
 show wpAny _ _ (field (.ref z) 2 >>= _) _ _ _;refine ap (bi (x:=.bool false) hz rfl rfl ?_);show wpAny _ _ (field (.ref z) 3 >>= _) _ _ _;refine ap (bi (x:=.ref TI) hz rfl rfl ?_);refine ap (wpAny_seqItems hI rfl ?_);show wpAny _ _ (Builtin.SmallTypes.ownedTupleIsFree (.ref z) >>= _) _ _ _;refine ap (mR hz hT λp1 z1 b1=>?_);simp only[Bool.false_eq_true,if_false];simp only[List.forIn_toArray,forIn_cons,forIn_nil];refine ap (ap (ap (bm ?_)));show wpAny _ _ (Builtin.SmallTypes.nextOf (.ref i1) >>= _) _ _ _;cases e1:xs[k1]? with
 |none=>exact ap (k7 hh (g1.to λo e=>b1.extBut _ o D.i1z e) (t1.to λo e=>b1.extBut _ o D.l1z e) e1 λp2 e b2 he=>q p2 e (λc o n1 n2 n3 v=>b2 _ _ n2 (b1.extBut _ _ n1 v)) he)
 |some x=>
  have e2:ys[k2]? =none:=by rcases hx with h|h;(rw[e1]at h;cases h);exact h
  refine ap (d4 (g1.to λo e=>b1.extBut _ o D.i1z e) (t1.to λo e=>b1.extBut _ o D.l1z e) e1 λp2 g1b b2=>bd (bd ?_));dsimp only;refine ap (ap (bm ?_));show wpAny _ _ (Builtin.SmallTypes.nextOf (.ref i2) >>= _) _ _ _;exact ap (k7 hh (g2.to λo e=>b2.extBut _ o D.i12.symm (b1.extBut _ o D.i2z e)) (t2.to λo e=>b2.extBut _ o D.l2i1 (b1.extBut _ o D.l2z e)) e2 λp4 e b4 he=>q p4 e (λc o n1 n2 n3 v=>b4 _ _ n3 (b2.extBut _ _ n2 (b1.extBut _ _ n1 v))) he)
def AK (hh:A.handled=none)(D:ZipApart z TI TO i1 i2 l1 l2)(hz:cy s.heap z TI TO .none f1)(hI:IsPair s.heap TI (.ref i1) (.ref i2))(hO:IsPair s.heap TO a b)
  (g1:bp tp1 s.heap i1 l1 k1) (g2:bp tp2 s.heap i2 l2 k2) (t1:cq tp1 s.heap l1 xs) (t2:cq tp2 s.heap l2 ys) (hx:xs[k1]? =none\/ys[k2]? =none)
  (q:∀ h',(∀ c o,c≠z->c≠TO->c≠i1->c≠i2->s.heap.get? c=some o->h'.get? c=some o)->Q none { s with heap:=h' }):wpAny (model prog w) A (pyNext (.ref z)) Q E s:=by
 have hT:s.TypeIs (.ref z) "zip":=⟨_,hz,rfl⟩;unfold pyNext;refine ap (wpAny_attempt (wpAny_callSpecial?_slot (name:=Str.ofString "__next__") hT F.slot_zip_next (wpAny_call_entry F.slot_zip_next hT F.entry_zip_next (Co hh D hz hI hO g1 g2 t1 t2 hx λh' e k ⟨o,ho,hc⟩=>?_) (F.args_zip_next_1 _))));exact ap (wpAny_isInstance (T:="StopIteration") (b:=true) ⟨o,ho,hc⟩ isSubtype_stop (bd (q _ k)))
def t8 (hh:A.handled=none)(D:ZipApart z TI TO i1 i2 l1 l2)(hz:cy s.heap z TI TO (.int T t) (.bool fb))(hT:s.heap.get? T.toNat=some oT)(hI:IsPair s.heap TI (.ref i1) (.ref i2))
  (g1:bp tp1 s.heap i1 l1 k1) (g2:bp tp2 s.heap i2 l2 k2) (t1:cq tp1 s.heap l1 xs) (t2:cq tp2 s.heap l2 ys) (hx:xs[k1]? =none\/ys[k2]? =none)
  (q:∀ h',(∀ c o,c≠z->c≠i1->c≠i2->s.heap.get? c=some o->h'.get? c=some o)->Q none { s with heap:=h' }):wpAny (model prog w) A (pyNext (.ref z)) Q E s:=by
 have hT':s.TypeIs (.ref z) "zip":=⟨_,hz,rfl⟩;unfold pyNext;refine ap (wpAny_attempt (wpAny_callSpecial?_slot (name:=Str.ofString "__next__") hT' F.slot_zip_next (wpAny_call_entry F.slot_zip_next hT' F.entry_zip_next (uN hh D hz hT hI g1 g2 t1 t2 hx λh' e k ⟨o,ho,hc⟩=>?_) (F.args_zip_next_1 _))));exact ap (wpAny_isInstance (T:="StopIteration") (b:=true) ⟨o,ho,hc⟩ isSubtype_stop (bd (q _ k)))
end
section
variable {prog:Program}{w:World}{A:Around}{E:HC}{s:Shared}{a:Addr}{vs:Array Value}
end
structure Zs (h:Heap) (tp1 tp2:Bool) (z TI TO i1 i2 l1 l2:Addr) (i:Nat) (xs ys:Array Value):Prop where
 zo:(∃ f1,cy h z TI TO .none f1)\/∃ (T:Int) (fb:Bool) (o:Obj),cy h z TI TO (rawInt T) (.bool fb)/\h.get? T.toNat=some o/\T.toNat≠z/\T.toNat≠TO/\T.toNat≠i1/\T.toNat≠i2
 hI:IsPair h TI (.ref i1) (.ref i2)
 hO:∃ a b,IsPair h TO a b
 g1:bp tp1 h i1 l1 i
 g2:bp tp2 h i2 l2 i
 t1:cq tp1 h l1 xs
 t2:cq tp2 h l2 ys
variable {d:Addr}
section
variable {prog:Program}{w:World}{A:Around}{E:HC}{s:Shared}{tp1 tp2:Bool}{z TI TO i1 i2 l1 l2:Addr}{i:Nat}{xs ys:Array Value}{x y:Value}
def Zs.next (D:ZipApart z TI TO i1 i2 l1 l2)(Z:Zs s.heap tp1 tp2 z TI TO i1 i2 l1 l2 i xs ys)(hx:xs[i]? =some x)(hy:ys[i]? =some y)
  (q:∀ h',Zs h' tp1 tp2 z TI TO i1 i2 l1 l2 (i+1) xs ys->IsPair h' s.heap.objs.size x y->h'.objs.size=s.heap.objs.size+1->(∀ c o,c≠z->c≠TO->c≠i1->c≠i2->s.heap.get? c=some o->h'.get? c=some o)->Q (some (.ref s.heap.objs.size)) { s with heap:=h' }):
  wpAny (model prog w) A (pyNext (.ref z)) Q E s:=by
 obtain⟨zo,hI,⟨a,b,hO⟩,g1,g2,t1,t2⟩:=Z;have n0:∀ {c o},s.heap.get? c=some o->s.heap.objs.size≠c:=λe=>Nat.ne_of_gt (ul e)
 rcases zo with⟨f1,hz⟩|⟨T,fb,o,hz,hT,n1,n2,n3,n4⟩
 .refine yH D hz hI hO g1 g2 t1 t2 hx hy λh' z1 o1 j1 j2 p1 sz k=>?_
  refine q h' ⟨.inr ⟨s.heap.objs.size,false,_,z1,p1,n0 hz,n0 hO,Nat.ne_of_gt g1.lt,Nat.ne_of_gt g2.lt⟩,k _ _ D.TIz D.TITO D.TIi1 D.TIi2 hI,⟨_,_,o1⟩,j1,j2,t1.to λo e=>k _ o D.l1z D.l1TO D.l1i1 D.l1i2 e,t2.to λo e=>k _ o D.l2z D.l2TO D.l2i1 D.l2i2 e⟩ p1 sz k
 .refine yK D hz hT hI g1 g2 t1 t2 hx hy λh' z1 j1 j2 p1 sz k=>?_
  exact q h' ⟨.inr ⟨T,true,o,z1,k _ _ n1 n3 n4 hT,n1,n2,n3,n4⟩,k _ _ D.TIz D.TIi1 D.TIi2 hI,⟨a,b,k _ _ D.TOz D.TOi1 D.TOi2 hO⟩,j1,j2,t1.to λo e=>k _ o D.l1z D.l1i1 D.l1i2 e,t2.to λo e=>k _ o D.l2z D.l2i1 D.l2i2 e⟩ p1 sz λc o m1 _ m3 m4 e=>k c o m1 m3 m4 e
def Zs.stop (hh:A.handled=none)(D:ZipApart z TI TO i1 i2 l1 l2)(Z:Zs s.heap tp1 tp2 z TI TO i1 i2 l1 l2 i xs ys)(hx:xs[i]? =none\/ys[i]? =none)
  (q:∀ h',(∀ c o,c≠z->c≠TO->c≠i1->c≠i2->s.heap.get? c=some o->h'.get? c=some o)->Q none { s with heap:=h' }):wpAny (model prog w) A (pyNext (.ref z)) Q E s:=by
 obtain⟨zo,hI,⟨a,b,hO⟩,g1,g2,t1,t2⟩:=Z;rcases zo with⟨f1,hz⟩|⟨T,fb,o,hz,hT,_⟩
 .exact AK hh D hz hI hO g1 g2 t1 t2 hx q
 .exact t8 hh D hz hT hI g1 g2 t1 t2 hx λh' k=>q h' λc o m1 _ m3 m4 e=>k c o m1 m3 m4 e
def Zs.keep {h':Heap}(Z:Zs h tp1 tp2 z TI TO i1 i2 l1 l2 i xs ys)(k:∀ c o,h.get? c=some o->c≠d->h'.get? c=some o) (n:d≠z/\d≠TI/\d≠TO/\d≠i1/\d≠i2/\d≠l1/\d≠l2) (hd:∃ o,h'.get? d=some o):Zs h' tp1 tp2 z TI TO i1 i2 l1 l2 i xs ys:=by
 obtain⟨zo,hI,⟨a,b,hO⟩,g1,g2,t1,t2⟩:=Z;obtain⟨m1,m2,m3,m4,m5,m6,m7⟩:=n;refine⟨?_,k _ _ hI m2.symm,⟨a,b,k _ _ hO m3.symm⟩,g1.to λo e=>k _ o e m4.symm,g2.to λo e=>k _ o e m5.symm,t1.to λo e=>k _ o e m6.symm,t2.to λo e=>k _ o e m7.symm⟩;rcases zo with⟨f1,hz⟩|⟨T,fb,o,hz,hT,r⟩
 .exact .inl ⟨f1,k _ _ hz m1.symm⟩
 .by_cases e:T.toNat=d
  .obtain⟨o',ho⟩:=hd;exact .inr ⟨T,fb,o',k _ _ hz m1.symm,by rw[e];exact ho,r⟩
  .exact .inr ⟨T,fb,o,k _ _ hz m1.symm,k _ _ hT e,r⟩
end
section
variable {prog:Program}{w:World}{A:Around}{tp1 tp2:Bool}{z TI TO i1 i2 l1 l2 d:Addr}{xs ys:Array Value}{Ky:Type} [DecidableEq Ky] {knd:KeyKind prog w Ky}
end
section
variable {X:Cx}{Y:HD}{U:St}{H:Hp}{s:Shared}{a:Addr}{kvs:List (Key×V)}{A:Around}{E:HC}
end
section
variable {X:Cx}{Y:HD}{U:St}{H:Hp}{s:Shared}
end
def DN (d:Addr)(hd:(d ==sysModules)=false)(dd:Option Addr)(ep:Nat)(sl:Array (Option Value)):Meets (Builtin.«dict.__eq__» ⟨[.ref d,.ref d],[]⟩) (λ_ R s=>s.heap.get? d=some ⟨.type "dict",dd,.dict #[] ep,sl⟩/\R (.ok (.ret (.bool true))) s):=by
 intro prog w A R s hs;obtain⟨h,g,dp,tt,os⟩:=s;obtain⟨ho,q⟩:=hs;have hT:(⟨h,g,dp,tt,os⟩:Shared).TypeIs (.ref d) "dict":=⟨_,ho,rfl⟩;unfold Builtin.«dict.__eq__»
 k_delta "equality"
 unfold Builtin.Dict.dictSlotArgs;refine ap (ap (wpAny_notOrdered_dict hT ?_));show wpAny _ _ (pure (Value.ref d,[Value.ref d]) >>= _) _ _ _;refine ap (bd (bd ?_));have hi:=PySem.F.kt_sub_dict;show wpAny _ _ (isInstance (.ref d) (.type "dict") >>= _) _ _ _;unfold Builtin.Dict.samePairs;simp only[Std.Legacy.Range.forIn_eq_forIn_range']
 repeat(any_goals first|assumption|wp_step)
variable {A:Around}{s:Shared}{dd:Option Addr}{sl:Array (Option Value)}
def DV (hd:(d ==sysModules)=false){ep:Nat}(ho:s.heap.get? d=some ⟨.type "dict",dd,.dict #[] ep,sl⟩) (hu:A.units<cLine):SeqAt.RcAt A s (.ref d) (.ref d) true:=λprog w E Q h=>
 richCompare_meets_room (op:=.Eq) ⟨_,ho,rfl⟩ ⟨_,ho,rfl⟩ PySem.F.slot_dict_eq PySem.F.entry_dict_eq (PySem.F.args_dict_eq_2 _ _) (DN d hd dd ep sl) ⟨ho,show Value.bool true≠Value.notImplemented/\Q (.bool true) s from⟨(λx=>nomatch x),h⟩⟩ hu
abbrev vT (K:W.Frag)(H:Hp)(a:Addr):Prop:=(∃ xs,aV K H a xs)\/(∃ xs,cM K H a xs)\/H a=some (.dK [])
variable {X:Cx}{Y:HD}
def xb {U:St}{H:Hp}{a:Addr}(I:Inv X Y U H s)(h:vT X.K H a)(hu:A.units+2<cLine):SeqAt.RcAt A s (.ref a) (.ref a) true:=by
 rcases h with⟨xs,h⟩|⟨xs,h⟩|h
 .obtain⟨ia,ra,pa,_⟩:=I.list h;have rc:=SeqAt.RcAt.lists (A:=A) (e:=λ_=>true) pa.isList pa.isList rfl nofun λj h1 h2=>SeqAt.EqAt.same _
  have e:(List.range ia.toArray.size).all (λ_=>true)=true:=by simp
  rwa [e]at rc
 .obtain⟨ia,ra,pa,_⟩:=I.tuple h;have rc:=SeqAt.RcAt.tuples (A:=A) (e:=λ_=>true) (show s.heap.IsTuple a ia.toArray from pa) (show s.heap.IsTuple a ia.toArray from pa) nofun λj h1 h2=>SeqAt.EqAt.same _
  have e:((List.range (min ia.toArray.size ia.toArray.size)).all (λ_=>true)&&ia.toArray.size ==ia.toArray.size)=true:=by simp
  rwa [e]at rc
 .obtain⟨z,hd,vs,rel,dd⟩:=kb I.hok (.inl h);cases rel;obtain⟨⟨c,d,da,sl⟩,es,ep,ho,hx,he,_,hp,_⟩:=dd;have e0:es=#[]:=by
   cases hp':es.toList with
   |nil=>exact Array.toList_eq_nil_iff.mp hp'
   |cons a b=>rw[hp']at hp;cases hp
  subst e0;obtain rfl:da=.dict #[] ep:=he;obtain⟨rfl,_⟩:=hx;exact DV hd ho nofun
section
variable {prog:Program}{w:World}{A:Around}{E:HC}{s:Shared}{T:String}{r d:Addr}{n:Nat}{P:Nat->Value->Prop}{OK:Heap->Prop}
end
abbrev nZ (tp:Bool):String:=match tp with
 |true=>"tuple"
 |false=>"list"
abbrev uh (K:W.Frag)(C:Addr):Bool:=findIn K (.ref C) "__eq__" ==some (some (.builtin "object.__eq__"))&&subIn K (.ref C) (.type "str") ==some false&&subIn K (.ref C) (.type "object") ==some true
def nS {prog:Program}{w:World}{K:Frag}{C:Addr}{R:Result->Shared->Prop}(X:K.In s.heap)(hm:makesIn K C=true)(hi:findIn K (.ref C) "__init__"=some (some (.builtin "object.__init__")))
  (h:R (.ok (.ret (.ref (s.heap.objs.size+1)))) { s with heap:=(s.heap.push emptyDict).push (instObj C s.heap.objs.size) }):codeAny (model prog w) A (.call (.ref C) ⟨[],[]⟩) R s:=by
 obtain⟨hh,g,d,t,os⟩:=s;have Y:=makes_of (M:=model prog w) X hm;refine make_core Y (looks_findIn X hi) (λz=>Looks.of_pure (oi_bind z)) (.inr ⟨rfl,rfl⟩) ?_;have k:∀ b o,hh.get? b=some o->((hh.push emptyDict).push (instObj C hh.objs.size)).get? b=some o:=λb o e=>u8 _ (u8 _ e)
 have hx:((hh.push emptyDict).push (instObj C hh.objs.size)).get? (hh.objs.size+1)=some (instObj C hh.objs.size):=by heap_get
 have t1:Looks (model prog w) ((hh.push emptyDict).push (instObj C hh.objs.size)) (typeOf (.ref (hh.objs.size+1))) (.ref C):=Looks.andThen (Looks.ld hx) .now;have t2:Looks (model prog w) ((hh.push emptyDict).push (instObj C hh.objs.size)) (isInstance (.ref (hh.objs.size+1)) (.type "object")) true:=t1.andThen (Y.top.keeps k);refine codeAny_call_builtin oi_plain entry_oi (@check_slot (model prog w) _ _ _ "object.__init__" "object" "__init__" (.ref (hh.objs.size+1)) [] [] _ oi_kind oi_split t2 (oi_args _) ?_);rw[oi_run];exact bd ⟨rfl,h⟩
structure Gy (K:Frag) (C:Addr):Prop where
 makes:makesIn K C=true
 init:findIn K (.ref C) "__init__"=some (some (.builtin "object.__init__"))
 kp:keepIn K (.ref C)=true
abbrev Fm (C:Addr):TE:=λ_ H Q=>∀ x dx,H x=none->H dx=none->dx≠x->Q (.ref x) (upd (upd H dx (.own x)) x (.ins C dx []))
variable {pos:Pos}
def vS {C:Addr}{x:Str}{p:Pos}(M:Gy X.K C)(hg:Gl X x)(hm:X.mg x=some (.ref C))(hdb:(x ==("__debug__":Str))=false):PE X (.Call (.Name x p) [] [] pos) (Fm C):=by
 intro Y s U H Q I h;refine ci (ba I hg hm ?_ hdb);refine W.callWith_K0 I.bF M.kp (wpAny_call (nS I.bF M.makes M.init ?_));have I2:=Inv.made (C:=C) I;exact⟨.ref (s.heap.objs.size+1),_,I2,rfl,h (s.heap.objs.size+1) s.heap.objs.size (I.hok.fresh (Nat.le_succ _)) (I.hok.fresh (s0 _)) (re (Nat.lt_succ_self _))⟩
@[reducible]def VV:List (V×V)->List (Value×Value)->Prop:=Paired λp q=>RelV p.1 q.1/\RelV p.2 q.2
abbrev PQ (X:Cx)(pos:Pos)(keys:List (Option Expr))(values:List Expr)(t:St->Hp->(List (V×V)->Hp->Prop)->Prop):Prop:=
 ∀ (Y:HD) (s:Shared) (U:St) (H:Hp) (Q:List (V×V)->Hp->Prop),Inv X Y U H s->t U H Q->
  wpAny (model X.prog X.w) X.A (evalPairs (pairTrees keys values X.env pos)) (λvs s'=>∃ ps H',Inv X Y U H' s'/\VV ps vs/\Q ps H') X.xe s
def AX:PQ X pos [] [] (λ_ H Q=>Q [] H):=λY s U H Q I h=>pairTrees_nil_walk ⟨[],H,I,.nil,h⟩
def yO {k v:Expr}{ks:List (Option Expr)}{vs:List Expr}{tk tv:TE}{t:St->Hp->(List (V×V)->Hp->Prop)->Prop}(hk:PE X k tk)(hv:PE X v tv)(hr:PQ X pos ks vs t):
  PQ X pos (some k::ks) (v::vs) (λU H Q=>tk U H λx H1=>tv U H1 λy H2=>t U H2 λps H3=>Q ((x,y)::ps) H3):=λY s U H Q I h=>
 pairTrees_cons_walk (aG (hk Y s U H _ I h) λu s1 ⟨x,H1,I1,rx,q1⟩=>aG (hv Y s1 U H1 _ I1 q1) λw2 s2 ⟨y,H2,I2,ry,q2⟩=>
  aG (hr Y s2 U H2 _ I2 q2) λws s3 ⟨ps,H3,I3,rel,q3⟩=>⟨(x,y)::ps,H3,I3,.cons ⟨rx,ry⟩ rel,q3⟩)
abbrev nW (K:W.Frag)(C:Addr):Bool:=findIn K (.ref C) "__ne__" ==some (some (.builtin "object.__ne__"))&&uh K C
section
variable {A:Around}{s:Shared}{l C dx:Addr}{od:Option Obj}{K:W.Frag}{prog:Program}{w:World}{E:HC}
def Di (X:K.In s.heap)(I:InstAt s.heap l (instObj C dx) C od)(h1:findIn K (.ref C) "__eq__"=some (some (.builtin "object.__eq__"))) (h3:subIn K (.ref C) (.type "object")=some true) (h:Q (some (.bool true)) s):wpAny (model prog w) A (callSpecialIfBound? (.ref l) "__eq__" [.ref l]) Q E s:=by
 simp only[callSpecialIfBound?,bindSpecialIfBound?];refine bm (ap (ap (ap (I.type.here ((looks_findIn X h1).here ?_)))));simp only[PySem.F.cmp_object.eq.bind];have fin:wpAny (model prog w) A (call (.builtin "object.__eq__") ([.ref l]++[.ref l]) >>= λv=>pure (some v)) Q E s:=by
  refine ap (wpAny_call (codeAny_call_builtin PySem.F.cmp_object.eq.plain PySem.F.cmpEntry_eq ?_));simp only[checkBuiltinCall,PySem.F.cmpKind_eq,PySem.F.cmpSplit_eq];refine ap (ap (I.type.here ((looks_subIn X h3).here ?_)));rw[if_neg (by simp)];have ha:=PySem.F.cmpArgs_eq (.ref l) (.ref l);have h0:(match Manifest.signature? "object.__eq__" with|some sig=>Bind.checkArgs "object.__eq__" sig { pos:=[Value.ref l]++[Value.ref l] }|x=>pure ())=pure ():=ha;refine wpAny_of_eq h0 ?_;exact objEq_entry_same (bd h)
 refine ap (wpAny_askSetting (wpAny_ite ?_))
 split
 .exact ap (bd (bd fin))
 .exact wpAny_tryCatch (ap (bd (bd fin)))
def DC (X:K.In s.heap)(I:InstAt s.heap l (instObj C dx) C od)(h1:findIn K (.ref C) "__eq__"=some (some (.builtin "object.__eq__"))) (h2:findIn K (.ref C) "__ne__"=some (some (.builtin "object.__ne__"))) (h3:subIn K (.ref C) (.type "object")=some true) (hu:A.units+2<cLine) (h:Q (some (.bool false)) s):wpAny (model prog w) A (callSpecialIfBound? (.ref l) "__ne__" [.ref l]) Q E s:=by
 simp only[callSpecialIfBound?,bindSpecialIfBound?];refine bm (ap (ap (ap (I.type.here ((looks_findIn X h2).here ?_)))));simp only[PySem.F.cmp_object.ne.bind];have fin:wpAny (model prog w) A (call (.builtin "object.__ne__") ([.ref l]++[.ref l]) >>= λv=>pure (some v)) Q E s:=by
  refine ap (wpAny_call (codeAny_call_builtin PySem.F.cmp_object.ne.plain PySem.F.cmpEntry_ne ?_));simp only[checkBuiltinCall,PySem.F.cmpKind_ne,PySem.F.cmpSplit_ne];refine ap (ap (I.type.here ((looks_subIn X h3).here ?_)));rw[if_neg (by simp)];have ha:=PySem.F.cmpArgs_ne (.ref l) (.ref l);have h0:(match Manifest.signature? "object.__ne__" with|some sig=>Bind.checkArgs "object.__ne__" sig { pos:=[Value.ref l]++[Value.ref l] }|x=>pure ())=pure ():=ha;refine wpAny_of_eq h0 ?_;unfold Builtin.«object.__ne__»;show wpAny _ _ (pure (Value.ref l,[Value.ref l]) >>= _) _ _ _;refine ap (bd ?_);refine ap (wpAny_cRoomFor (show A.units+1<cLine by omega) ?_);refine ap (Di X I h1 h3 ?_);refine ap (bn ?_);exact bd (bd h)
 refine ap (wpAny_askSetting (wpAny_ite ?_))
 split
 .exact ap (bd (bd fin))
 .exact wpAny_tryCatch (ap (bd (bd fin)))
def rh (X:K.In s.heap)(I:InstAt s.heap l (instObj C dx) C od)(hC:nW K C=true)(hu:A.units+3<cLine):SeqAt.RcNeAt A s (.ref l) (.ref l) false:=λprog w E Q h=>by
 unfold nW uh at hC;simp only[nb,beq_iff_eq]at hC;obtain⟨h0,⟨h1,h2⟩,h3⟩:=hC;simp only[richCompare,PySem.cmpInfo_NotEq]
 try with_reducible refine bm ?_
 refine ap (wpAny_cRoomFor nofun ?_);show wpAny _ _ (typeOf (Value.ref l) >>= _) _ _ _;refine ap (I.type.here (ap (I.type.here ?_)));rw[if_neg (by simp)];refine ap (bd ?_);rw[if_neg (by simp)];refine ap ?_;simp only[tryCompare];refine ap (DC X I h1 h0 h3 nofun ?_);exact bd (bd h)
def Dk (d:Addr)(hd:(d ==sysModules)=false)(dd:Option Addr)(ep:Nat)(sl:Array (Option Value)):Meets (Builtin.«dict.__ne__» ⟨[.ref d,.ref d],[]⟩) (λ_ R s=>s.heap.get? d=some ⟨.type "dict",dd,.dict #[] ep,sl⟩/\R (.ok (.ret (.bool false))) s):=by
 intro prog w A R s hs;obtain⟨h,g,dp,tt,os⟩:=s;obtain⟨ho,q⟩:=hs;have hT:(⟨h,g,dp,tt,os⟩:Shared).TypeIs (.ref d) "dict":=⟨_,ho,rfl⟩;unfold Builtin.«dict.__ne__»
 k_delta "equality"
 unfold Builtin.Dict.dictSlotArgs;refine ap (ap (wpAny_notOrdered_dict hT ?_));show wpAny _ _ (pure (Value.ref d,[Value.ref d]) >>= _) _ _ _;refine ap (bd (bd ?_));have hi:=PySem.F.kt_sub_dict;show wpAny _ _ (isInstance (.ref d) (.type "dict") >>= _) _ _ _;unfold Builtin.Dict.samePairs;simp only[Std.Legacy.Range.forIn_eq_forIn_range']
 repeat(any_goals first|assumption|wp_step)
def zw (hd:(d ==sysModules)=false){ep:Nat}(ho:s.heap.get? d=some ⟨.type "dict",dd,.dict #[] ep,sl⟩) (hu:A.units<cLine):SeqAt.RcNeAt A s (.ref d) (.ref d) false:=λprog w E Q h=>
 richCompare_meets_room (op:=.NotEq) ⟨_,ho,rfl⟩ ⟨_,ho,rfl⟩ PySem.F.slot_dict_ne PySem.F.entry_dict_ne (PySem.F.args_dict_ne_2 _ _) (Dk d hd dd ep sl) ⟨ho,show Value.bool false≠Value.notImplemented/\Q (.bool false) s from⟨(λx=>nomatch x),h⟩⟩ hu
abbrev uT (K:W.Frag)(H:Hp)(a:Addr):Prop:=(∃ xs,cM K H a xs)\/H a=some (.dK [])\/(∃ C dx fs,H a=some (.ins C dx fs)/\nW K C=true)\/∃ xs,aV K H a xs
def wV {U:St}{H:Hp}{a:Addr}(I:Inv X Y U H s)(h:uT X.K H a)(hu:A.units+3<cLine):SeqAt.RcNeAt A s (.ref a) (.ref a) false:=by
 rcases h with⟨xs,h⟩|h|⟨C,dx,fs,h,hn⟩|⟨xs,h⟩
 .obtain⟨ia,ra,pa,_⟩:=I.tuple h;have rc:=SeqAt.RcNeAt.tuples (A:=A) (e:=λ_=>true) (show s.heap.IsTuple a ia.toArray from pa) (show s.heap.IsTuple a ia.toArray from pa) nofun λj h1 h2=>SeqAt.EqAt.same _
  have e:((List.range (min ia.toArray.size ia.toArray.size)).all (λ_=>true)&&ia.toArray.size ==ia.toArray.size)=true:=by simp
  rw[e]at rc;exact rc
 .obtain⟨z,hd,vs,rel,dd⟩:=kb I.hok (.inl h);cases rel;obtain⟨⟨c,d,da,sl⟩,es,ep,ho,hx,he,_,hp,_⟩:=dd;have e0:es=#[]:=by
   cases hp':es.toList with
   |nil=>exact Array.toList_eq_nil_iff.mp hp'
   |cons a b=>rw[hp']at hp;cases hp
  subst e0;obtain rfl:da=.dict #[] ep:=he;obtain⟨rfl,_⟩:=hx;exact zw hd ho nofun
 .obtain⟨mA,o,_⟩:=fH I.hok h;obtain⟨od,i,_⟩:=o.look;exact rh I.bF i hn hu
 .obtain⟨ia,ra,pa,_⟩:=I.list h;have rc:=SeqAt.RcNeAt.lists (A:=A) (e:=λ_=>true) pa.isList pa.isList rfl nofun λj h1 h2=>SeqAt.EqAt.same _
  have e:(List.range ia.toArray.size).all (λ_=>true)=true:=by simp
  rw[e]at rc;exact rc
end
end L2
namespace L2
open PySem PySem.Spec PyProof.Rows
section
variable {X:Cx}{tg:Expr}
end
end L2
namespace L2
open PySem PySem.Spec PySem.W PyProof.Rows
open PySem.AutoSeq1 (wpAny_loadPart')
section
variable {prog:Program}{w:World}{A:Around}{E:HC}{s:Shared}
end
section
variable {X:Cx}{Y:HD}{U:St}{H:Hp}{s:Shared}
end
section
variable {prog:Program}{w:World}{A:Around}{E:HC}{s:Shared}
variable {z TI TO i1 i2 i3 l1 l2 l3:Addr}{k1 k2 k3:Nat}{tp1 tp2 tp3:Bool}{xs ys zs:Array Value}{x y v a b c f1:Value}
end
variable {X:Cx}{e es:Expr}{te:TE}{ts:TO}{p2 pos:Pos}
def qU:∀ {xs:List V}{us:List Value},xs.length=us.length->(∀ (j:Nat) (x:V) (u:Value),xs[j]? =some x->us[j]? =some u->RelV x u)->Vals xs us
 | [],[],_,_=>.nil
 |x::xs,u::us,e,h=>.cons (h 0 x u rfl rfl) (qU (Nat.succ.inj e) λj a b e1 e2=>h (j+1) a b e1 e2)
def qH:∀ {kvs:List (Key×V)}{vs:List (Key×Value)},KV kvs vs->kvs.map (·.1)=vs.map (·.1)
 |_,_,.nil=>rfl
 |_,_,.cons r rs=>by rw[map_cons,map_cons,r.1,qH rs]
def ow {Y:HD}{U:St}{H:Hp}{s:Shared}{Q:VK}{d:Addr}{kvs:List (Key×V)}(hc:X.calm=true)(I:Inv X Y U H s)(e:Rd H d (.dK kvs))(q:∀ p,H p=none->Q (.ref p) (upd H p (.lst (kvs.map (λkv=>kV kv.1))))):
  wpAny (model X.prog X.w) X.A (call (.type "list") [.ref d]) (EP X Y U Q) X.xe s:=by
 obtain⟨hz,hd,vs,rel,dd⟩:=kb I.hok e;obtain⟨o,es,ep,ho,hx,he,hk,hp,hn⟩:=dd;have hA:s.heap.DictAt (aN X.prog X.w) d vs ep:=⟨o,es,ho,hx,he,hk,hp,hn⟩;have hl:vs.length<=ce:=by rw[<-rel.length];exact hz
 refine kdl_call (kdl_dict hd) (I.ok.hd hc) hA hl λh' tk acc c' hk' hD hi=>?_
 have r:Vals (kvs.map (λkv=>kV kv.1)) acc.toList:=qU ((cr ..).trans (rel.length.trans (hi.1.symm.trans Array.length_toList.symm))) λj x u e1 e2=>by
  rw[le]at e1;obtain⟨⟨k,y⟩,ek,rfl⟩:=ol.mp e1;obtain⟨k',y',ek',hs⟩:=hi.2 j u (by rw[<-Array.getElem?_toList];exact e2);have ekk:k=k':=by
   have h2:(kvs.map (·.1))[j]? =(vs.map (·.1))[j]? :=by rw[qH rel]
   rw[le,le,ek,ek']at h2;exact Option.some.inj h2
  subst ekk;rcases aF hs with⟨i,t,rfl,rfl⟩|⟨z,t,rfl,rfl⟩
  .exact⟨t,rfl⟩
  .exact⟨t,rfl⟩
 exact⟨.ref _,_,I.laid (t':=tk) hk' (s0 _) (show aJ X.prog X.w _ h' _ (.lst (kvs.map (λkv=>kV kv.1))) from⟨by rw[cr];exact hz,acc.toList,c',r,by rw[Array.toArray_toList];exact hD⟩),rfl,q _ (I.hok.fresh (s0 _))⟩
end L2
namespace L2
open PySem PySem.Spec PyProof.Rows
abbrev AY (z:Str):It:=⟨λi _=>i<z.cps.size,λi H x H'=>H'=H/\∃ c,z.cps[i]? =some c/\x=.str ⟨#[c]⟩,λi _=>z.cps.size<=i⟩
def vY {P:Program}{w:World}{K:W.Frag}{tg:Expr}(it:Addr)(z:Str)(t:Tok):Turn P w K tg (AY z) [it] it (λi h=>h.IsStrIter it (strIterType z) z t i) where
 mem:=by simp
 obj:=λi h st b hb=>by
  have e:b=it:=by simpa using hb
  subst e;obtain⟨o,e,c,d⟩:=st;exact⟨o,e,λv z=>by rw[d]at z;cases z⟩
 keep:=λi h h' st k=>let⟨o,ho,r⟩:=st;⟨o,k it (by simp) o ho,r⟩
 item:=by
  intro X hP hw hK hc i Y s U H E I hf st hg;subst hP hw hK;obtain⟨f0,f1,f2,f3,f4,f5⟩:=hf it (by simp);have go:∀ T,(T="str_ascii_iterator"\/T="str_iterator")->strIterType z=T->wpAny (model X.prog X.w) X.A (pyNext (.ref it)) (λr s1=>∃ u,r=some u/\
   wpAny (model X.prog X.w) X.A (letOwnedTupleGo tg (.ref it) u) (λ_ s2=>∃ x H',Inv X Y U H' s2/\RelV x u/\(AY z).yld i H x H'/\s2.heap.IsStrIter it (strIterType z) z t (i+1)/\∀ b ∈ [it],H' b=none) E s1) E s:=by
   intro T hT eT;rw[eT]at st⊢;have fin:∀ v h' tk,SignAt z i v->h'.IsStrIter it T z t (i+1)->(∀ b o,b ∉ [it]->s.heap.get? b=some o->h'.get? b=some o)->∃ u,some v=some u/\
    wpAny (model X.prog X.w) X.A (letOwnedTupleGo tg (.ref it) u) (λ_ s2=>∃ x H',Inv X Y U H' s2/\RelV x u/\(AY z).yld i H x H'/\s2.heap.IsStrIter it T z t (i+1)/\∀ b ∈ [it],H' b=none) E { s with heap:=h',toks:=tk }:=by
    intro v h' tk hv st' kk;obtain⟨c,u,hc',rfl⟩:=hv;have I1:Inv X Y U H { s with heap:=h',toks:=tk }:=I.turned (λb o hb e=>kk b o (by simpa using hb) e) f0 f1 f3 f4 f5;obtain⟨o,e,cc,d⟩:=id st';exact⟨_,rfl,qA (s:={ s with heap:=h',toks:=tk }) e cc d (by rcases hT with rfl|rfl<;>decide) ⟨.str ⟨#[c]⟩,H,I1,⟨u,rfl⟩,⟨rfl,c,hc',rfl⟩,st',λb hb=>(hf b hb).1⟩⟩
   rcases hT with rfl|rfl
   .exact(Walks.strAscii (prog:=X.prog) (w:=X.w) (I.ok.hd hc) it z t).item i s _ _ hg st fin
   .exact(Walks.strWide (prog:=X.prog) (w:=X.w) (I.ok.hd hc) it z t).item i s _ _ hg st fin
  have hz:strIterType z="str_ascii_iterator"\/strIterType z="str_iterator":=by unfold strIterType;split<;>simp
  exact go _ hz rfl
 done:=by
  intro X hP hw hK hc i Y s U H E I hf st hg;subst hP hw hK;obtain⟨f0,f1,f2,f3,f4,f5⟩:=hf it (by simp);have hx:z.cps[i]? =none:=Array.getElem?_eq_none hg;have fin:∀ h',Heap.ExtBut it s.heap h'->(none:Option Value)=none/\Inv X Y U H { s with heap:=h' }:=λh' eb=>⟨rfl,I.turned (t':=s.toks) (λb o hb e=>eb b o hb e) f0 f1 f3 f4 f5⟩
  unfold strIterType at st
  split at st
  .exact wpAny_pyNext_ascii_end (I.ok.hd hc) st hx fin
  .exact wpAny_pyNext_wide_end (I.ok.hd hc) st hx fin
 self:=λ_ _ _ _ _ st h=>by
  unfold strIterType at st
  split at st
  .exact wpAny_pyIter_striter_ascii st h
  .exact wpAny_pyIter_striter_wide st h
def uz {X:Cx}{tg:Expr}{Y:HD}{U:L2.St}{H1:Hp}{s1:Shared}{R:It->Hp->Prop}{z:Str}{v:Value}(I1:Inv X Y U H1 s1)(r:RelV (.str z) v)(q:R (AY z) H1):
  wpAny (model X.prog X.w) X.A (pyIter v) (DE X Y U tg R) X.xe s1:=by
 obtain⟨t,rfl⟩:=r;refine wpAny_pyIter_strU ?_;refine⟨s1.heap.objs.size,[s1.heap.objs.size],_,_,H1,rfl,I1.kept (t':=s1.toks) λb o e=>u8 _ e,vY _ z t,⟨_,ut _ rfl,rfl,rfl⟩,λb hb=>?_,q⟩;have e:b=s1.heap.objs.size:=by simpa using hb
 subst e;exact I1.u7 (s0 _) (I1.hok.fresh (s0 _))
def Inv.kn {X:Cx}{Y:HD}{U:L2.St}{H:Hp}{s:Shared}{d:Addr}{kvs:List (Key×V)}(I:Inv X Y U H s)(e:H d=some (.dK kvs)):∃ o,Inv X Y U (upd H d (.kn o (.dK kvs))) s:=by
 obtain⟨_,_,vs,rel,o,es,ep,ho,r⟩:=id (show aJ X.prog X.w H s.heap d (.dK kvs) from I.hok d _ e);have ne:∀ b u,H b=some u->u≠.dK kvs->b≠d:=λb u hb hn z=>by subst z;rw[e]at hb;cases hb;exact hn rfl
 refine⟨o,I.step (h':=s.heap) (t':=s.toks) (g':=s.gens) (d':=s.drawn) (ch:=[]) (λ_ z=>nomatch z) (λb o _ _ _ e _=>e) (λb o _ _ _ e _=>⟨o.slots,e⟩) (λb o _ _ n=>by rw[af (λz=>by subst z;rw[e]at n;cases n)];exact n) (λb o _ e=>⟨o,e⟩)
  (λb xs h=>by rw[af (ne b _ h (λz=>by cases z))];exact h) (λb o u h=>by rw[af (ne b _ h (λz=>by cases z))];exact h) (λb ps h=>⟨#[],by rw[af (ne b _ h (λz=>by cases z)),h];simp⟩) (λm hm=>hm) (λb u hb=>?_) I.bare⟩
 have d9:∀ b u,H b=some u->aJ X.prog X.w (upd H d (.kn o (.dK kvs))) s.heap b u:=λb u hb=>(I.hok b u hb).d9 (λ_ _ _ e=>e) (λc hc=>by rw[af (ne c _ hc (λz=>by cases z))];exact hc) (λc xs hc=>by rw[af (ne c _ hc (λz=>by cases z))];exact hc)
 by_cases z:b=d
 .subst z;rw[aA]at hb;cases hb;exact⟨ho,d9 _ _ e⟩
 .rw[af z]at hb;exact d9 b u hb
section
variable {X:Cx}
def kg:∀ {us:List Value}{ys:List Str},Vals (ys.map V.str) us->StrsAre us ys
 |_,[],.nil=>.nil
 |_,y::ys,.cons r h=>by
  obtain⟨t,rfl⟩:=r;exact .cons y t (kg h)
def ky:∀ l:List (Str×Tok),Vals ((l.map (·.1)).map V.str) (strValues l)
 | []=>.nil
 |(y,t)::l=>.cons ⟨t,rfl⟩ (ky l)
abbrev rJoin (K:W.Frag):V->List V->Hp->VK->Prop:=λx vs H Q=>∃ z p,∃ ys:List Str,x=.str z/\vs=[.ref p]/\aV K H p (ys.map V.str)/\(ys.map (·.length)).sum+ys.length<=1000000/\z.length<=16/\Q (.str (Txt.join z ys)) H
def xl:zP X "str.join" (rJoin X.K):=by
 intro Y s U H x vs v us Q I rx rv h;obtain⟨z,p,ys,rfl,rfl,hp,hw,hz,q⟩:=h;obtain⟨t,rfl⟩:=rx;cases rv with
 |cons r rv=>
  cases rv;cases r;obtain⟨its,rl,pl,_⟩:=I.list hp;exact join_listW pl.isList (by rw[List.toList_toArray];exact kg rl) hz nofun λt' k=>⟨.str _,H,I.tok _,⟨t',rfl⟩,q⟩
abbrev lF:V->List V->Hp->VK->Prop:=λx vs H Q=>∃ z y,x=.str z/\vs=[.str y]/\Q (.bl (Txt.startswith z y)) H
def sL:zP X "str.startswith" lF:=by
 intro Y s U H x vs v us Q I rx rv h;obtain⟨z,y,rfl,rfl,q⟩:=h;obtain⟨t,rfl⟩:=rx;cases rv with
 |cons r rv=>
  cases rv;obtain⟨t',rfl⟩:=r;exact PySem.SC.startswith ⟨.bl _,H,I,rfl,q⟩
abbrev pI:V->List V->Hp->VK->Prop:=λx vs H Q=>∃ z y:Str,x=.str z/\vs=[.str y]/\(y.length ==0)=false/\z.length<=100000/\∀ p,H p=none->Q (.ref p) (upd H p (.lst ((Txt.split z y).map V.str)))
def uy:zP X "str.split" pI:=by
 intro Y s U H x vs v us Q I rx rv h;obtain⟨z,y,rfl,rfl,hy,hz,q⟩:=h;obtain⟨t,rfl⟩:=rx;cases rv with
 |cons r rv=>
  cases rv;obtain⟨u,rfl⟩:=r;have hsp:(Txt.split z y).length<=200000:=Nat.le_trans (fact_split z y).2 nofun;have fin:∀ (l:List (Str×Tok)) (k:Nat),l.map (·.1)=Txt.split z y->EP X Y U Q (.ref s.heap.objs.size) { s with toks:=k,heap:=s.heap.push { cls:=.type "list",data:=.seq (strValues l).toArray } }:=λl k e=>by
   refine⟨.ref s.heap.objs.size,_,I.laid (t':=k) (λb o e=>u8 _ e) (s0 _) (o:=.lst ((Txt.split z y).map V.str)) ⟨?_,strValues l,0,by rw[<-e];exact ky l,ut _ rfl⟩,rfl,q _ (I.hok.fresh (s0 _))⟩;rw[cr,sizeLine_eq]
   omega
  have hsz:z.length<=ce:=by rw[sizeLine_eq];omega
  open PySem.Builtin.Str in
  cases h1:(decide (z.length<y.length)||decide (strKind z<strKind y))
  .cases hf:(occurrences z y 0 z.length (z.length+1)).isEmpty
   .have e:Txt.split z y=_:=(if_neg (ne_true_of_eq_false h1)).trans (if_neg (ne_true_of_eq_false hf));refine call_meets F.slot_str_split (typeIs_str _ _ _) F.entry_str_split (F.args_str_split_2 _ _) (meets_str_split_sep z y t u h1 hy hf hsz ?_) ?_
    .have e2:=congrArg List.length e;rw[sizeLine_eq,<-e2]
     omega
    .show wants _ _ _ { s with toks:=_,heap:=s.heap.push { cls:=.type "list",data:=.seq (strsFrom s.toks (partsBetween z (occurrences z y 0 z.length (z.length+1)) y.length)).toArray } };rw[strsFrom_eq];exact fin (numbered s.toks _) _ ((numbered_texts _ _).trans e.symm)
   .exact call_meets F.slot_str_split (typeIs_str _ _ _) F.entry_str_split (F.args_str_split_2 _ _) (meets_str_split_not_found z y t u h1 hy hf)
     (fin [(z,t)] s.toks ((if_neg (ne_true_of_eq_false h1)).trans (if_pos hf)).symm)
  .exact call_meets F.slot_str_split (typeIs_str _ _ _) F.entry_str_split (F.args_str_split_2 _ _) (meets_str_split_cannot_occur z y t u h1)
    (fin [(z,t)] s.toks (if_pos h1).symm)
end
end L2
namespace L2
open PySem PySem.Spec PySem.W PyProof.Rows SeqAt
open AutoSeq1 (wpAny_loadPart')
open MeetsSeq MeetsSeq2 MeetsSeq3 SeqRoads2
section
variable {prog:Program}{w:World}
end
end L2
namespace L2
open PySem PySem.Spec PySem.W PyProof.Rows PySem.Calls PyProof.V
section
variable {X:Cx}{Y:HD}{U:St}{H:Hp}{s:Shared}{a:Addr}{D:List (Str×Str)}{k w:Str}{t:Tok}{A:Around}{E:HC}
def sx {x:Str}{n:Int}{Q:HC}(hn:PySem.intText? x=some n)(hl:x.length<=640)(h:Q (.int n s.toks) { s with toks:=s.toks+1 }):wpAny (model X.prog X.w) A (call (.type "int") [.str x t]) Q E s:=KIN.call_text hn hl h
end
abbrev iK (z:Str)(lo hi:Option Int):Str:=⟨((z.cps.toList.drop (HT.aS z.length 0 lo)).take (HT.aS z.length z.length hi-HT.aS z.length 0 lo)).toArray⟩
def jg (z:Str)(lo hi:Option Int):(iK z lo hi).length<=z.length:=by
 show(List.toArray _).size<=z.cps.size;rw[io,dL,lf,Array.length_toList]
 omega
def qR (lo hi:Option Int)(n:Nat):Builtin.Str.strSliceIndices lo hi 1 n=(List.range (HT.aS n n hi-HT.aS n 0 lo)).map (HT.aS n 0 lo+·):=by
 rw[<-sliceRange_one];have e:∀ (o:Option Int) (d:Nat),(match o with|none=>(d:Int)|some i=>max 0 (min (if i<0 then i+(n:Int) else i) (n:Int)))=((HT.aS n d o:Nat):Int):=λo d=>by
  cases o with
  |none=>rfl
  |some i=>
   simp only[HT.aS]
   by_cases h:i<0
   .simp only[h,if_true]<;>omega
   .simp only[h,if_false]<;>omega
 rw[<-e lo 0,<-e hi n]
 rfl
def tV (z:Str)(l u:Option (Int×Tok)):(⟨((slicePicked z l u none).filterMap (z.cps[·]?)).toArray⟩:Str)=iK z (l.map (·.1)) (u.map (·.1)):=by
 unfold slicePicked iK;simp only[Option.map_none,Option.getD_none];rw[qR,pick_run]
def sq (z:Str)(l u:Option (Int×Tok))(h:(slicePicked z l u none).length=z.length):z=iK z (l.map (·.1)) (u.map (·.1)):=by
 unfold slicePicked at h;simp only[Option.map_none,Option.getD_none]at h;rw[qR,cr,List.length_range]at h;have h1:=HT.ug z.length z.length (s0 _) (u.map (·.1));have h2:HT.aS z.length 0 (l.map (·.1))=0\/z.length=0:=by omega
 unfold iK;apply Str.ext';apply Array.toList_inj.mp;rcases h2 with h2|h2
 .rw[h,h2,drop_zero];exact(take_of_length_le (by simp[Str.length])).symm
 .have e:z.cps.toList=[]:=length_eq_zero_iff.mp (by simpa[Str.length] using h2);simp[e]
end L2
namespace L2
open PySem PySem.Spec PyProof.Rows
inductive iA (K:W.Frag) (H:Hp):Nat->V->V->Bool->Prop where
 |flat {n:Nat}{x y:V}(fx:aM x=true) (fy:aM y=true):iA K H n x y (jy x y)
 |same {n:Nat}(a:Addr):iA K H (n+1) (.ref a) (.ref a) true
 |ll {n:Nat}{a b:Addr}{xs ys:List V}{e:Nat->Bool}(ha:aV K H a xs) (hb:aV K H b ys) (hl:xs.length=ys.length) (h:∀ j x y,xs[j]? =some x->ys[j]? =some y->iA K H (n+1) x y (e j)):iA K H (n+2) (.ref a) (.ref b) ((List.range xs.length).all e)
 |lln {n:Nat}{a b:Addr}{xs ys:List V}(ha:aV K H a xs) (hb:aV K H b ys) (hl:xs.length≠ys.length):iA K H (n+2) (.ref a) (.ref b) false
 |tt {n:Nat}{a b:Addr}{xs ys:List V}{e:Nat->Bool}(ha:cM K H a xs) (hb:cM K H b ys) (h:∀ j x y,xs[j]? =some x->ys[j]? =some y->iA K H (n+1) x y (e j)):iA K H (n+2) (.ref a) (.ref b) ((List.range (min xs.length ys.length)).all e&&xs.length ==ys.length)
variable {A:Around}
section
variable {X:Cx}{Y:HD}{s:Shared}{U:St}{H:Hp}
def wu {y x:V}{u v:Value}(ry:RelV y u)(rx:RelV x v)(fy:aM y=true)(fx:aM x=true):SeqAt.RcAt A s u v (jy y x):=by
 cases y<;>first|cases fy|skip
 all_goals (cases x<;>first|cases fx|skip)
 all_goals (first|(obtain⟨t,rfl⟩:=ry)|cases ry)
 all_goals (first|(obtain⟨t',rfl⟩:=rx)|cases rx)
 .exact SeqAt.RcAt.none_none
 .exact SeqAt.RcAt.none_bool _
 .exact SeqAt.RcAt.none_int _ _
 .exact SeqAt.RcAt.none_str _ _
 .exact SeqAt.RcAt.bool_none _
 .exact SeqAt.RcAt.bool_bool _ _
 .exact SeqAt.RcAt.bool_int _ _ _
 .exact SeqAt.RcAt.bool_str _ _ _
 .exact SeqAt.RcAt.int_none _ _
 .exact SeqAt.RcAt.int_bool _ _ _
 .exact SeqAt.RcAt.int_int _ _ _ _
 .exact SeqAt.RcAt.int_str _ _ _ _
 .exact SeqAt.RcAt.str_none _ _
 .exact SeqAt.RcAt.str_bool _ _ _
 .exact SeqAt.RcAt.str_int _ _ _ _
 .exact SeqAt.RcAt.str_str _ _ _ _
def mf {y x:V}{u v:Value}(ry:RelV y u)(rx:RelV x v)(fy:aM y=true)(fx:aM x=true):SeqAt.RcNeAt A s u v (!jy y x):=by
 cases y<;>first|cases fy|skip
 all_goals (cases x<;>first|cases fx|skip)
 all_goals (first|(obtain⟨t,rfl⟩:=ry)|cases ry)
 all_goals (first|(obtain⟨t',rfl⟩:=rx)|cases rx)
 .exact SeqAt.RcNeAt.none_none
 .exact SeqAt.RcNeAt.none_bool _
 .exact SeqAt.RcNeAt.none_int _ _
 .exact SeqAt.RcNeAt.none_str _ _
 .exact SeqAt.RcNeAt.bool_none _
 .exact SeqAt.RcNeAt.bool_bool _ _
 .exact SeqAt.RcNeAt.bool_int _ _ _
 .exact SeqAt.RcNeAt.bool_str _ _ _
 .exact SeqAt.RcNeAt.int_none _ _
 .exact SeqAt.RcNeAt.int_bool _ _ _
 .exact SeqAt.RcNeAt.int_int _ _ _ _
 .exact SeqAt.RcNeAt.int_str _ _ _ _
 .exact SeqAt.RcNeAt.str_none _ _
 .exact SeqAt.RcNeAt.str_bool _ _ _
 .exact SeqAt.RcNeAt.str_int _ _ _ _
 .exact SeqAt.RcNeAt.str_str _ _ _ _
def eqv_refl (I:Inv X Y U H s):∀ {n:Nat}{x y:V}{b:Bool},iA X.K H n x y b->x=y->b=true:=by
 intro n x y b h
 induction h with
 | @flat n x y fx fy=>
  rintro rfl;cases x<;>first|(exact absurd fx Bool.false_ne_true)|simp[jy]
 |same a=>intro _;rfl
 | @ll n a b xs ys e ha hb hl h ih=>
  intro z;cases z;have:=I.gf ha hb;subst this;rw[all_eq_true];intro j hj;have hj':j<xs.length:=mem_range.mp hj;exact ih j _ _ (lv hj') (lv hj') rfl
 |lln ha hb hl=>intro z;cases z;exact absurd (congrArg List.length (I.gf ha hb)) hl
 | @tt n a b xs ys e ha hb h ih=>
  intro z;cases z;have:=I.ku ha hb;subst this;rw[beq_self_eq_true,Bool.and_true,Nat.min_self,all_eq_true];intro j hj;have hj':j<xs.length:=mem_range.mp hj;exact ih j _ _ (lv hj') (lv hj') rfl
def nj (I:Inv X Y U H s):∀ {n:Nat}{x y:V}{b:Bool},iA X.K H n x y b->∀ {A:Around}{u v:Value},A.units+n<cLine->RelV x u->RelV y v->
  (SeqAt.EqAt A s u v b)/\(x=y\/SeqAt.RcAt A s u v b/\SeqAt.RcNeAt A s u v (!b)):=by
 intro n x y b h
 induction h with
 |flat fx fy=>intro A u v _ rx ry;exact⟨tX rx ry fx fy,.inr ⟨wu rx ry fx fy,mf rx ry fx fy⟩⟩
 |same a=>intro A u v _ rx ry;cases rx;cases ry;exact⟨SeqAt.EqAt.same _,.inl rfl⟩
 | @ll n a b xs ys e ha hb hl h ih=>
  intro A u v hu rx ry;have hall:=iA.ll ha hb hl h;cases rx;cases ry
  by_cases hab:a=b
  .subst hab;have z:=eqv_refl I hall rfl;rw[z];exact⟨SeqAt.EqAt.same _,.inl rfl⟩
  obtain⟨ia,ra,pa,_⟩:=I.list ha;obtain⟨ib,rb,pb,_⟩:=I.list hb;have e1:ia.toArray.size=xs.length:=by rw[io,ra.length]
  have e2:ib.toArray.size=ys.length:=by rw[io,rb.length]
  have he:∀ j (h1:j<ia.toArray.size) (h2:j<ib.toArray.size),SeqAt.EqAt A.in1 s ia.toArray[j] ib.toArray[j] (e j):=λj h1 h2=>by
   obtain⟨x1,f1,r1⟩:=iI ra h1;obtain⟨y1,f2,r2⟩:=iI rb h2;exact(ih j x1 y1 f1 f2 (by show A.units+1+(n+1)<cLine;omega) r1 r2).1
  have rc:=SeqAt.RcAt.lists (A:=A) pa.isList pb.isList (by rw[e1,e2,hl]) nofun he;have rn:=SeqAt.RcNeAt.lists (A:=A) pa.isList pb.isList (by rw[e1,e2,hl]) nofun he;rw[e1]at rc rn;exact⟨SeqAt.EqAt.of_refs hab rc,.inr ⟨rc,rn⟩⟩
 | @lln n a b xs ys ha hb hl=>
  intro A u v hu rx ry;cases rx;cases ry;obtain⟨ia,ra,pa,_⟩:=I.list ha;obtain⟨ib,rb,pb,_⟩:=I.list hb;have hab:a≠b:=λz=>by subst z;exact hl (congrArg List.length (I.gf ha hb))
  have hz:(ia.toArray.size != ib.toArray.size)=true:=by
   rw[io,io,<-ra.length,<-rb.length];simpa using hl
  have rc:=SeqAt.RcAt.lists_lengths (A:=A) pa.isList pb.isList hz nofun;exact⟨SeqAt.EqAt.of_refs hab rc,.inr ⟨rc,SeqAt.RcNeAt.lists_lengths (A:=A) pa.isList pb.isList hz nofun⟩⟩
 | @tt n a b xs ys e ha hb h ih=>
  intro A u v hu rx ry;have hall:=iA.tt ha hb h;cases rx;cases ry
  by_cases hab:a=b
  .subst hab;have z:=eqv_refl I hall rfl;rw[z];exact⟨SeqAt.EqAt.same _,.inl rfl⟩
  obtain⟨ia,ra,pa,_⟩:=I.tuple ha;obtain⟨ib,rb,pb,_⟩:=I.tuple hb;have e1:ia.toArray.size=xs.length:=by rw[io,ra.length]
  have e2:ib.toArray.size=ys.length:=by rw[io,rb.length]
  have he:∀ j (h1:j<ia.toArray.size) (h2:j<ib.toArray.size),SeqAt.EqAt A.in1 s ia.toArray[j] ib.toArray[j] (e j):=λj h1 h2=>by
   obtain⟨x1,f1,r1⟩:=iI ra h1;obtain⟨y1,f2,r2⟩:=iI rb h2;exact(ih j x1 y1 f1 f2 (by show A.units+1+(n+1)<cLine;omega) r1 r2).1
  have rc:=SeqAt.RcAt.tuples (A:=A) (show s.heap.IsTuple a ia.toArray from pa) (show s.heap.IsTuple b ib.toArray from pb) nofun he;have rn:=SeqAt.RcNeAt.tuples (A:=A) (show s.heap.IsTuple a ia.toArray from pa) (show s.heap.IsTuple b ib.toArray from pb) nofun he;rw[e1,e2]at rc rn;exact⟨SeqAt.EqAt.of_refs hab rc,.inr ⟨rc,rn⟩⟩
@[irreducible] noncomputable def eh (K:W.Frag) (neg:Bool):R2:=λx y H Q=>False\/∃ n b,iA K H n x y b/\n<=100/\(aM x=true\/x≠y\/(neg=false/\∃ a,x=.ref a/\vT K H a)\/(neg=true/\∃ a,x=.ref a/\uT K H a))/\Q (.bl (if neg then !b else b)) H
def CA (hu:X.A.units+200<cLine):cL X (compareOp .Eq) (eh X.K false):=by
 intro Y s U H x y v u Q I rx ry h;unfold eh at h;rcases h with z|⟨n,b,e,hn,hx,q⟩
 .exact z.elim
 rcases(nj I e (A:=X.A) nofun rx ry).2 with z|⟨z,_⟩
 .subst z;rcases hx with hx|hx
  .have z:=eqv_refl I e rfl;have r:=wu (s:=s) (A:=X.A) rx ry hx hx;have z2:=eqv_refl I (iA.flat (K:=X.K) (H:=H) (n:=0) hx hx) rfl;rw[z2]at r;rw[z]at q;exact PySem.EqBoolInt.of_rc r ⟨.bl true,H,I,rfl,q⟩
  rcases hx with hx|⟨_,a,rfl,hs⟩|⟨hx,_⟩
  .exact absurd rfl hx
  .have z:=eqv_refl I e rfl;rw[z]at q;cases rx;cases ry;exact PySem.EqBoolInt.of_rc (xb (A:=X.A) I hs nofun) ⟨.bl true,H,I,rfl,q⟩
  .cases hx
 .exact PySem.EqBoolInt.of_rc z ⟨.bl b,H,I,rfl,q⟩
def B0 (hu:X.A.units+200<cLine):cL X (compareOp .NotEq) (eh X.K true):=by
 intro Y s U H x y v u Q I rx ry h;unfold eh at h;rcases h with z|⟨n,b,e,hn,hx,q⟩
 .exact z.elim
 rcases(nj I e (A:=X.A) nofun rx ry).2 with z|⟨_,z⟩
 .subst z;rcases hx with hx|hx
  .have z:=eqv_refl I e rfl;have r:=mf (s:=s) (A:=X.A) rx ry hx hx;have z2:=eqv_refl I (iA.flat (K:=X.K) (H:=H) (n:=0) hx hx) rfl;rw[z2]at r;rw[z]at q;exact PySem.EqBoolInt.of_rcne r ⟨.bl false,H,I,rfl,q⟩
  rcases hx with hx|⟨hx,_⟩|⟨_,a,rfl,hs⟩
  .exact absurd rfl hx
  .cases hx
  .have z:=eqv_refl I e rfl;rw[z]at q;cases rx;cases ry;exact PySem.EqBoolInt.of_rcne (wV (A:=X.A) I hs nofun) ⟨.bl false,H,I,rfl,q⟩
 .exact PySem.EqBoolInt.of_rcne z ⟨.bl (!b),H,I,rfl,q⟩
end
@[irreducible] noncomputable def yR (K:W.Frag) (a b:Addr) (H:Hp) (Q:VK):Prop:=(∃ xs ys,H a=some (.lst xs)/\H b=some (.lst ys)/\xs.length+ys.length<=100000/\∀ p,H p=none->Q (.ref p) (upd H p (.lst (xs++ys))))\/False
@[irreducible] noncomputable def Dv (K:W.Frag) (a:Addr) (k:Int) (H:Hp) (Q:VK):Prop:=False\/False
abbrev CN (K:W.Frag):R2:=λx y H Q=>match x,y with
 | .int i,.int j=>Q (.int (i+j)) H
 | .str a,.str b=>a.length+b.length<=100000/\Q (.str (a++b)) H
 | .ref a,.ref b=>yR K a b H Q
 |_,_=>False
abbrev Bd:R2:=λx y H Q=>match x,y with
 | .int i,.int j=>Q (.int (i-j)) H
 |_,_=>False
abbrev Cm (K:W.Frag):R2:=λx y H Q=>match x,y with
 | .int i,.int j=>rF i j/\Q (.int (i*j)) H
 | .ref a,.int k=>Dv K a k H Q
 |_,_=>False
abbrev A1:R2:=λx y H Q=>match x,y with
 | .int i,.int j=>(0<j/\j<1073741824)/\Q (.int (i / j)) H
 |_,_=>False
abbrev B2:R2:=λx y H Q=>match x,y with
 | .int i,.int j=>0<j/\Q (.int (i % j)) H
 |_,_=>False
abbrev Bt:R2:=λx y H Q=>match x,y with
 | .int i,.int j=>yI i j/\Q (.int (i ^ j.toNat)) H
 |_,_=>False
abbrev B1 (K:W.Frag)(op:Operator):R2:=match op with
 | .Add=>CN K
 | .Sub=>Bd
 | .Mult=>Cm K
 | .FloorDiv=>A1
 | .Mod=>B2
 | .Pow=>Bt
 |_=>λ_ _ _ _=>False
section
variable {X:Cx}
def hW {n:Nat}(h:n<=1000000):n<=ce:=by rw[sizeLine_eq];omega
def BH (op:Operator):cL X (binaryOp op) (B1 X.K op):=by
 intro Y s U H x y v u Q I rx ry h;cases op with
 |Add=>
  have h':CN X.K x y H Q:=h;unfold CN at h'
  split at h'
  .exact AQ Y s U H _ _ v u Q I rx ry ⟨_,_,rfl,rfl,h'⟩
  .exact pk Y s U H _ _ v u Q I rx ry ⟨_,_,rfl,rfl,hW nofun,h'.2⟩
  .unfold yR at h';rcases h' with⟨xs,ys,ha,hb,hz,q⟩|h'
   .exact Cq Y s U H _ _ v u Q I rx ry ⟨_,_,xs,ys,rfl,rfl,ha,hb,hW nofun,q⟩
   .exact h'.elim
  .exact h'.elim
 |Sub=>
  have h':Bd x y H Q:=h;unfold Bd at h'
  split at h'
  .exact BO Y s U H _ _ v u Q I rx ry ⟨_,_,rfl,rfl,h'⟩
  .exact h'.elim
 |Mult=>
  have h':Cm X.K x y H Q:=h;unfold Cm at h'
  split at h'
  .exact Bq Y s U H _ _ v u Q I rx ry ⟨_,_,rfl,rfl,h'.1,h'.2⟩
  .rename_i k;unfold Dv at h';rcases h' with h'|h'
   .exact h'.elim
   .exact h'.elim
  .exact h'.elim
 |FloorDiv=>
  have h':A1 x y H Q:=h;unfold A1 at h'
  split at h'
  .exact yl Y s U H _ _ v u Q I rx ry ⟨_,_,rfl,rfl,h'.1,h'.2⟩
  .exact h'.elim
 |Mod=>
  have h':B2 x y H Q:=h;unfold B2 at h'
  split at h'
  .exact CP Y s U H _ _ v u Q I rx ry ⟨_,_,rfl,rfl,h'.1,h'.2⟩
  .exact h'.elim
 |Pow=>
  have h':Bt x y H Q:=h;unfold Bt at h'
  split at h'
  .exact Ca Y s U H _ _ v u Q I rx ry ⟨_,_,rfl,rfl,h'.1,h'.2⟩
  .exact h'.elim
 |_=>exact(show False from h).elim
abbrev tj (f:Int->Int->Bool):R2:=λx y H Q=>match x,y with
 | .int i,.int j=>Q (.bl (f i j)) H
 |_,_=>False
@[irreducible] noncomputable def wZ (K:W.Frag) (neg:Bool):R2:=λx y H Q=>match y with
 | .ref p=>(∃ xs,(aV K H p xs\/cM K H p xs)/\aM x=true/\xs.all aM=true/\Q (.bl (if neg then !Ai x xs else Ai x xs)) H)\/False\/False\/False
 | .str j=>∃ i,x=.str i/\Q (.bl (if neg then !(!(Builtin.Str.occurrences j i 0 j.length 1).isEmpty) else !(Builtin.Str.occurrences j i 0 j.length 1).isEmpty)) H
 |_=>False
@[irreducible] noncomputable def wD (neg:Bool):R2:=λx y H Q=>match y with
 | .non=>Q (.bl (if neg then !decide (x=.non) else decide (x=.non))) H
 | .bl b=>False
 | .ref b=>False
 |_=>False
abbrev l5 (K:W.Frag)(op:CmpOp):R2:=match op with
 | .Eq=>eh K false
 | .NotEq=>eh K true
 | .Lt=>tj λi j=>decide (i<j)
 | .LtE=>tj λi j=>decide (i<=j)
 | .Gt=>tj λi j=>decide (j<i)
 | .GtE=>tj λi j=>decide (j<=i)
 | .In=>wZ K false
 | .NotIn=>λ_ _ _ _=>False
 | .Is=>wD false
 | .IsNot=>wD true
def lU {f:Int->Int->Bool}{op:CmpOp}(ho:cL X (compareOp op) (xW λi j=>.bl (f i j))):cL X (compareOp op) (tj f):=by
 intro Y s U H x y v u Q I rx ry h;unfold tj at h
 split at h
 .exact ho Y s U H _ _ v u Q I rx ry ⟨_,_,rfl,rfl,h⟩
 .exact h.elim
def AV (hu:X.A.units+200<cLine)(op:CmpOp):cL X (compareOp op) (l5 X.K op):=by
 cases op with
 |Eq=>exact CA hu
 |NotEq=>exact B0 hu
 |Lt=>exact lU DQ
 |LtE=>exact lU D7
 |Gt=>exact lU EE
 |GtE=>exact lU DJ
 |In=>
  intro Y s U H x y v u Q I rx ry h;have h':wZ X.K false x y H Q:=h;unfold wZ at h'
  split at h'
  .rcases h' with⟨xs,hx,f1,f2,q⟩|g|y|z
   .exact tf Y s U H _ _ v u Q I rx ry ⟨_,xs,rfl,hx,f1,f2,q⟩
   .exact g.elim
   .exact y.elim
   .exact z.elim
  .obtain⟨i,rfl,q⟩:=h';exact rD Y s U H _ _ v u Q I rx ry ⟨_,_,rfl,rfl,q⟩
  .exact h'.elim
 |NotIn=>exact λ_ _ _ _ _ _ _ _ _ _ _ _ h=>(show False from h).elim
 |Is=>
  intro Y s U H x y v u Q I rx ry h;have h':wD false x y H Q:=h;unfold wD at h'
  split at h'
  .exact Bl Y s U H _ _ v u Q I rx ry ⟨rfl,h'⟩
  .exact h'.elim
  .exact h'.elim
  .exact h'.elim
 |IsNot=>
  intro Y s U H x y v u Q I rx ry h;have h':wD true x y H Q:=h;unfold wD at h'
  split at h'
  .exact yz Y s U H _ _ v u Q I rx ry ⟨rfl,h'⟩
  .exact h'.elim
  .exact h'.elim
  .exact h'.elim
@[irreducible] noncomputable def wF (K:W.Frag):R2:=λx y H Q=>match x with
 | .ref p=>(∃ xs i v,y=.int i/\(aV K H p xs\/cM K H p xs)/\iB xs i=some v/\Q v H)\/(∃ v,Bb H p y (some v)/\Q v H)\/False
 | .str z=>∃ i c,y=.int i/\z.length<=100000/\iB z.cps.toList i=some c/\Q (.str ⟨#[c]⟩) H
 |_=>False
def og (hu:X.A.units+200<cLine):CW X (wF X.K):=by
 intro value slice Y s U H x y v u Q I rx ry h hs;unfold wF at h
 split at h
 .rcases h with⟨xs,i,w,rfl,hx,ha,q⟩|⟨w,g,q⟩|z
  .rcases hx with hx|hx
   .exact wU value slice Y s U H _ _ v u Q I rx ry ⟨_,xs,i,w,rfl,rfl,hx,ha,q⟩ hs
   .exact BI value slice Y s U H _ _ v u Q I rx ry ⟨_,xs,i,w,rfl,rfl,hx,ha,q⟩ hs
  .cases rx;exact tail_any (nu I g) PySem.F.slot_dict_getitem.lookup (tB nofun I g ry λw' s3 I3 rw'=>⟨w,H,I3,rw',q⟩) hs
  .exact z.elim
 .obtain⟨i,c,rfl,hz,ha,q⟩:=h;exact Cu value slice Y s U H _ _ v u Q I rx ry ⟨_,i,c,rfl,rfl,hW nofun,ha,q⟩ hs
 .exact h.elim
@[irreducible] noncomputable def sF:sC:=λo i v H Q=>match o with
 | .ref p=>(∃ xs k j,i=.int k/\H p=some (.lst xs)/\uF xs.length k=some j/\Q (upd H p (.lst (xs.set j v))))\/∃ H4,DA H p i v H4/\Q H4
 |_=>False
def pV (hu:X.A.units+200<cLine):xy X sF:=by
 intro Y s U H o i v ov iv u Q I ro ri rv h;unfold sF at h
 split at h
 .rcases h with⟨xs,k,j,rfl,hp,hj,q⟩|⟨H4,g,q⟩
  .exact set_list Y s U H _ _ v ov iv u Q I ro ri rv ⟨_,xs,k,j,rfl,rfl,hp,hj,q⟩
  .cases ro;exact rP nofun I g ri rv λs4 I4=>⟨H4,I4,q⟩
 .exact h.elim
def qY {v:Value}{o:Option Int}(p:IsPart v o):∃ l:Option (Int×Tok),v=partValue l:=by
 cases p with
 |none=>exact⟨none,rfl⟩
 |int i t=>exact⟨some (i,t),rfl⟩
abbrev DK:V->Option Int->Option Int->Hp->VK->Prop:=λx lo hi H Q=>∃ z,x=.str z/\z.length<=100000/\Q (.str (iK z lo hi)) H
def zD {p:Option Int}{l:Option (Int×Tok)}(h:IsPart (partValue l) p):l.map (·.1)=p:=by
 cases l with
 |none=>cases h;rfl
 |some x=>obtain⟨i,t⟩:=x;cases h;rfl
def BB:C0 X DK:=by
 intro Y s U H x v vl vu lo hi sl Q I rx hs pl pu h;obtain⟨z,rfl,h0,q⟩:=h;obtain⟨t,rfl⟩:=rx;obtain⟨l,rfl⟩:=qY pl;obtain⟨u,rfl⟩:=qY pu;have el:=zD pl;have eu:=zD pu;refine⟨"str",_,PySem.F.slot_str_getitem.lookup,typeIs_str _ _ _,wpAny_getItem_str_slice (l:=l) (u:=u) (st:=none) hs rfl ?_⟩;unfold sliceMade
 split
 .rename_i hw;have e:=sq z l u (by simpa using hw);rw[el,eu]at e;exact⟨.str z,H,I,⟨_,rfl⟩,by rw[<-e]at q;exact q⟩
 .rw[tV,el,eu];exact⟨hW (Nat.le_trans (jg z lo hi) (Nat.le_trans h0 (by decide))),⟨.str _,H,I.tok _,⟨_,rfl⟩,q⟩⟩
@[irreducible] noncomputable def tJ (K:W.Frag):V->Option Int->Option Int->Hp->VK->Prop:=λx lo hi H Q=>match x with
 | .ref a=>(∃ xs,aV K H a xs/\∀ p,H p=none->Q (.ref p) (upd H p (.lst (ij xs lo hi))))\/Ej K (.ref a) lo hi H Q
 | .str z=>DK (.str z) lo hi H Q
 |_=>False
def Cd:C0 X (tJ X.K):=by
 intro Y s U H x v vl vu lo hi sl Q I rx hs pl pu h;unfold tJ at h
 split at h
 .rcases h with⟨xs,hx,q⟩|h
  .exact xU Y s U H _ v vl vu lo hi sl Q I rx hs pl pu ⟨_,xs,rfl,hx,q⟩
  .exact B4 Y s U H _ v vl vu lo hi sl Q I rx hs pl pu h
 .exact BB Y s U H _ v vl vu lo hi sl Q I rx hs pl pu h
 .exact h.elim
end
end L2
namespace L3
open PySem L2
set_option genSizeOf false
inductive Bf where
 |len|list|tuple|int|str|min|max|abs|all|any|dict|sum
 deriving DecidableEq
inductive Lm where
 |append|extend|insert|pop|clear|reverse|count
 deriving DecidableEq
inductive Sm where
 |join|split|starts
 deriving DecidableEq
inductive Cl where
 |own (c:Nat)|ty (n:String)
mutual
inductive Ex where
 |v (i:Nat)|int (i:Int)|bl (b:Bool)|non|str (x:Str)|gl (x:Str)
 |bin (op:Operator) (a b:Ex)|neg (a:Ex)|not (a:Ex)|and (a b:Ex)|or (a b:Ex)
 |cmp (op:CmpOp) (a b:Ex)|cmp2 (o1 o2:CmpOp) (a b c:Ex)|cmp3 (o1 o2 o3:CmpOp) (a b c d:Ex)
 |ife (c:Tx) (a b:Ex)|tup (es:fj)|lst (es:fj)|ix (a i:Ex)|sl (a:Ex) (lo hi:EO)
 |fld (a:Ex) (f:Str)|call (f:Nat) (es:fj)|meth (a:Ex) (m:Str) (es:fj)|lm (m:Lm) (a:Ex) (es:fj)|make (c:Nat) (es:fj)|bini (es:fj)|cini (c:Nat) (es:fj)
 |bf (b:Bf) (es:fj)|sm (m:Sm) (a b:Ex)|isi (a:Ex) (c:Cl)|lc (elt:Ex) (sel:List Nat) (it:zO)|lci (elt:Ex) (c:Tx) (sel:List Nat) (it:zO)|lct (elt:Ex) (n:Nat) (sel:List Nat) (it:zO)|lcu (elt:Ex) (c:Tx) (n:Nat) (sel:List Nat) (it:zO)|dnew|up (a:Ex)|dzip (a b:Ex)|isiT (a:Ex) (cs:List Nat)|vals (tp:Bool) (a:Ex)|mk0 (c:Nat)|disp (ks:List Str) (es:fj)|lix (a b:Ex)|rev (a b:Ex)|dget (a k d:Ex)|dupd (a b:Ex)
inductive Tx where
 |not (a:Tx)|and (a b:Tx)|or (a b:Tx)|cmp (op:CmpOp) (a b:Ex)|cmp2 (o1 o2:CmpOp) (a b c:Ex)|val (e:Ex)
inductive fj where
 |nil|cons (e:Ex) (es:fj)
inductive EO where
 |no|yes (e:Ex)
inductive zO where
 |rng1 (a:Ex)|rng2 (a b:Ex)|rng3 (a b c:Ex)|enm (a:Ex)|enf (a:Ex)|seq (a:Ex)|zip (a b:Ex)|zip3 (a b c:Ex)
end
inductive EW where
 |nm (i:Nat)|tp (is:List Nat)|nt (i:Nat) (is:List Nat)
mutual
inductive Sx where
 |asg (i:Nat) (e:Ex)|asgT (is:List Nat) (e:Ex)|par (is:List Nat) (es:fj)|sub (o i v:Ex)|fld (o:Ex) (f:Str) (v:Ex)
 |aug (i:Nat) (op:Operator) (e:Ex)|augS (o i:Ex) (op:Operator) (e:Ex)|augF (o:Ex) (f:Str) (op:Operator) (e:Ex)
 |ret (e:Ex)|retN|pass|brk|cont|expr (e:Ex)
 |ife (c:Tx) (a b:jo)|whl (c:Tx) (b:jo)|for (t:EW) (it:zO) (b:jo)|rais (e:Ex)|tryx (b:jo) (hs:wA)
inductive jo where
 |nil|cons (s:Sx) (r:jo)
inductive wA where
 |nil|cons (c:Nat) (i:Nat) (b:jo) (hs:wA)
end
structure aH where
 ps:List Str
 N:List Str
 dfl:List V
 body:jo
/-- what of the text never changes. gfn,gcl:the global names of defs and classes,by number;gbl:built-in names that are not shadowed;gbi:classes of exceptions whose __init__ is the built-in one;na:class and name that no class of it has;
  me:class,name,def;ini:class,its __init__;oc,xc:plain classes,classes of exceptions;sub,subT:isinstance -/
structure Tab where
 fns:List aH
 gfn:List (Str×Nat)
 gcl:List (Str×Nat)
 gbl:List Str
 gbi:List Str
 na:List (Nat×Str)
 me:List ((Nat×Str)×Nat)
 ini:List (Nat×Nat)
 ini0:List Nat
 inip:List Nat
 oc:List Nat
 xc:List Nat
 sub:List ((Nat×Nat)×Bool)
 subT:List ((Nat×String)×Bool)
 subB:List ((String×String)×Bool)
 subO:List ((String×Nat)×Bool)
 cin:List (Nat×Nat):=[]
structure Rt where
 K:W.Frag
 fad:Nat->Addr
 cad:Nat->Addr
 gl:Str->Option V
structure Gx where
 T:Tab
 R:Rt
 Ψ:Nat->Sp
 cm:Bool
@[irreducible] noncomputable def gY (c:Bool) (A B:Prop):Prop:=match c with
 |true=>A
 |false=>B
def cQ (c:Bool)(A B:Prop):gY c A B=(if c=true then A else B):=by unfold gY;cases c<;>rfl
abbrev AS (K:W.Frag)(x:V)(H:Hp)(Q:Bool->Hp->Prop):Prop:=match x with
 | .bl k=>Q k H
 |y=>∃ k,yo K y H k/\Q k H
abbrev tyName:V->Hp->Option String
 | .non,_=>some "NoneType"
 | .bl _,_=>some "bool"
 | .int _,_=>some "int"
 | .str _,_=>some "str"
 | .ref a,H=>match H a with
  |some (.lst _)=>some "list"
  |some (.tup _)=>some "tuple"
  |some (.dK _)=>some "dict"
  |some (.kn _ (.dK _))=>some "dict"
  |_=>none
 |_,_=>none
@[irreducible] noncomputable def jJ (G:Gx) (b:Bf) (vs:List V) (H:Hp) (Q:VK):Prop:=match b with
 | .len=>∃ x n,vs=[x]/\DH G.R.K x H n/\Q (.int n) H
 | .list=>(∃ p ys,vs=[.ref p]/\(aV G.R.K H p ys\/cM G.R.K H p ys)/\∀ l,H l=none->Q (.ref l) (upd H l (.lst ys)))\/(G.cm=true/\∃ p kvs,vs=[.ref p]/\Rd H p (.dK kvs)/\∀ l,H l=none->Q (.ref l) (upd H l (.lst (kvs.map (λkv=>kV kv.1)))))
 | .tuple=>False
 | .int=>((∃ i,vs=[.int i]/\Q (.int i) H)\/∃ k,vs=[.bl k]/\Q (.int (if k then 1 else 0)) H)\/∃ z n,vs=[.str z]/\PySem.intText? z=some n/\z.length<=640/\Q (.int n) H
 | .str=>(∃ i,vs=[.int i]/\i.natAbs.log2<1920/\Q (.str (toString i)) H)\/∃ z,vs=[.str z]/\Q (.str z) H
 | .min=>False
 | .max=>False
 | .abs=>False
 | .all=>G.cm=true/\∃ p,∃ bs:List Bool,vs=[.ref p]/\aV G.R.K H p (bs.map V.bl)/\Q (.bl (bs.all id)) H
 | .any=>False
 | .dict=>False
 | .sum=>False
@[irreducible] noncomputable def t6 (m:Lm) (p:Addr) (xs:List V) (vs:List V) (H:Hp) (Q:VK):Prop:=match m with
 | .append=>∃ y,vs=[y]/\xs.length<=10000/\Q .non (upd H p (.lst (xs++[y])))
 | .extend=>∃ b zs,vs=[.ref b]/\H b=some (.lst zs)/\xs.length+zs.length<=10000/\Q .non (upd H p (.lst (xs++zs)))
 | .insert=>∃ i y,vs=[.int i,y]/\0<=i/\i<=xs.length/\xs.length<=10000/\Q .non (upd H p (.lst (xs.take i.toNat++y::xs.drop i.toNat)))
 | .pop=>False
 | .clear=>False
 | .reverse=>False
 | .count=>False
abbrev dflt (G:Gx)(f n:Nat):List V:=match G.T.fns[f]? with
 |some d=>d.dfl.drop (n+d.dfl.length-d.ps.length)
 |none=>[]
abbrev fj.len:fj->Nat
 | .nil=>0
 | .cons _ es=>es.len+1
abbrev uD (G:Gx)(H:Hp)(a:Addr)(i:Nat):Prop:=(G.T.oc.contains i=true/\∃ dx fs,H a=some (.ins (G.R.cad i) dx fs))\/(G.T.xc.contains i=true/\∃ dx fs fr,H a=some (.exc (G.R.cad i) dx fs fr))
@[irreducible] noncomputable def jE (G:Gx) (c:Cl) (x:V) (H:Hp) (Q:VK):Prop:=match c with
 | .ty n=>(∃ t b,tyName x H=some t/\G.T.subB.lookup (t,n)=some b/\Q (.bl b) H)\/∃ a i b,x=.ref a/\uD G H a i/\G.T.subT.lookup (i,n)=some b/\Q (.bl b) H
 | .own j=>(∃ t b,tyName x H=some t/\G.T.subO.lookup (t,j)=some b/\Q (.bl b) H)\/∃ a i b,x=.ref a/\uD G H a i/\G.T.sub.lookup (i,j)=some b/\Q (.bl b) H
@[irreducible] noncomputable def mh (G:Gx) (f:Str) (x:V) (H:Hp) (Q:VK):Prop:=∃ a i fs v,x=.ref a/\((G.T.oc.contains i=true/\∃ dx,H a=some (.ins (G.R.cad i) dx fs))\/(G.T.xc.contains i=true/\∃ dx fr,H a=some (.exc (G.R.cad i) (some dx) fs fr)))/\
 G.T.na.contains (i,f)=true/\fs.lookup f=some v/\Q v H
@[irreducible] noncomputable def wC (G:Gx) (f:Str) (x y:V) (H:Hp) (Q:Hp->Prop):Prop:=∃ a i,x=.ref a/\G.T.na.contains (i,f)=true/\
 ((∃ dx fs,G.T.oc.contains i=true/\H a=some (.ins (G.R.cad i) dx fs)/\fs.length<1000/\Q (upd H a (.ins (G.R.cad i) dx (cw f y fs))))\/
  (∃ d fs fr,G.T.xc.contains i=true/\H a=some (.exc (G.R.cad i) (some d) fs fr)/\fs.length<1000/\Q (upd H a (.exc (G.R.cad i) (some d) (cw f y fs) fr)))\/
  (∃ fr,G.T.xc.contains i=true/\H a=some (.exc (G.R.cad i) none [] fr)/\∀ d,H d=none->Q (upd (upd H d (.own a)) a (.exc (G.R.cad i) (some d) [(f,y)] fr))))
abbrev D4 (op:Operator)(x y:V)(H:Hp)(Q:VK):Prop:=match op,x,y with
 | .Add,.int i,.int j=>Q (.int (i+j)) H
 | .Sub,.int i,.int j=>Q (.int (i-j)) H
 |_,_,_=>False
@[irreducible] noncomputable def vQ (K:W.Frag) (x y:V) (H:Hp) (Q:VK):Prop:=match x,y with
 | .ref p,.int i=>∃ xs v,aV K H p xs/\0<=i/\xs[i.toNat]? =some v/\Q v H
 |_,_=>False
abbrev yF (U:St):List Nat->List V->St
 |i::is,x::xs=>yF (U.set i (some x)) is xs
 |_,_=>U
@[irreducible] noncomputable def yD (K:W.Frag) (m:Sm) (z:Str) (y:V) (H:Hp) (Q:VK):Prop:=match m with
 | .join=>rJoin K (.str z) [y] H Q
 | .split=>pI (.str z) [y] H Q
 | .starts=>lF (.str z) [y] H Q
@[irreducible] noncomputable def yG (xs:List V) (H:Hp) (Q:VK):Prop:=xs.length<=10000/\∀ p,H p=none->Q (.ref p) (upd H p (.lst xs))
@[irreducible] noncomputable def oz (xs:List V) (H:Hp) (Q:VK):Prop:=xs.length<=10000/\∀ p,H p=none->Q (.ref p) (upd H p (.tup xs))
@[irreducible] noncomputable def wR (l:Addr) (H:Hp) (R:It->Hp->Prop):Prop:=(∃ xs,H l=some (.lst xs))/\R (Er l) H
@[irreducible] noncomputable def oB (K:W.Frag) (p:Addr) (H:Hp) (R:It->Hp->Prop):Prop:=((∃ xs,aV K H p xs)/\R (C2 K p) H)\/((∃ xs,cM K H p xs)/\R (CY K p) H)\/False
@[irreducible] noncomputable def sD (C:Addr) (H:Hp) (Q:VK):Prop:=∀ x dx,H x=none->H dx=none->dx≠x->Q (.ref x) (upd (upd H dx (.own x)) x (.ins C dx []))
@[irreducible] noncomputable def tL (te:TE) (J:It) (σ₀:St) (H1:Hp) (Q:VK):Prop:=LC te J σ₀ H1 Q
def wb: @tL= @LC:=by
 funext te J U H Q
 unfold tL
 rfl
@[irreducible] noncomputable def zJ (tc:TT) (te:TE) (J:It) (σ₀:St) (H1:Hp) (Q:VK):Prop:=LCg (fO 0) tc te J σ₀ H1 Q
def vN: @zJ= @LCg (fO 0):=by
 funext tc te J U H Q
 unfold zJ
 rfl
abbrev gl (is:List Nat):xF:=λvs U H Q=>vs.length=is.length/\Q (yF U is vs) H
@[irreducible] noncomputable def LCt (K:W.Frag) (n:Nat) (te:TE) (J:It) (σ₀:St) (H1:Hp) (Q:VK):Prop:=LCg (yT K n (gl (List.range n))) yes te J σ₀ H1 Q
def Bv {K:W.Frag}{n:Nat}:LCt K n=LCg (yT K n (gl (List.range n))) yes:=by
 funext te J U H Q
 unfold LCt
 rfl
mutual
noncomputable def wE (G:Gx):Ex->St->Hp->VK->XK->Prop
 | .v i,U,H,Q,_=>match U[i]? with
  |some (some x)=>Q x H
  |_=>False
 | .int i,_,H,Q,_=>Q (.int i) H
 | .bl b,_,H,Q,_=>Q (.bl b) H
 | .non,_,H,Q,_=>Q .non H
 | .str x,_,H,Q,_=>Q (.str x) H
 | .gl x,_,H,Q,_=>match G.R.gl x with
  |some v=>Q v H
  |none=>False
 | .bin op a b,U,H,Q,E=>wE G a U H (λx H1=>wE G b U H1 (λy H2=>B1 G.R.K op x y H2 Q) E) E
 | .neg a,U,H,Q,E=>wE G a U H (λx H1=>match x with| .int i=>Q (.int (-i)) H1|_=>False) E
 | .not a,U,H,Q,E=>wE G a U H (λx H1=>match x with| .bl c=>Q (.bl (!c)) H1|_=>False) E
 | .and a b,U,H,Q,E=>wE G a U H (λx H1=>match x with| .bl c=>gY c (wE G b U H1 Q E) (Q (.bl false) H1)|_=>False) E
 | .or a b,U,H,Q,E=>wE G a U H (λx H1=>match x with| .bl c=>gY c (Q (.bl true) H1) (wE G b U H1 Q E)|_=>False) E
 | .cmp op a b,U,H,Q,E=>wE G a U H (λx H1=>wE G b U H1 (λy H2=>l5 G.R.K op x y H2 Q) E) E
 | .cmp2 o1 o2 a b c,U,H,Q,E=>wE G a U H (λx H1=>wE G b U H1 (λy H2=>l5 G.R.K o1 x y H2 λz H3=>match z with| .bl k=>gY k (wE G c U H3 (λw H4=>l5 G.R.K o2 y w H4 Q) E) (Q (.bl false) H3)|_=>False) E) E
 | .cmp3 o1 o2 o3 a b c d,U,H,Q,E=>False
 | .ife c a b,U,H,Q,E=>wT G c U H (λk H1=>gY k (wE G a U H1 Q E) (wE G b U H1 Q E)) E
 | .tup es,U,H,Q,E=>wEs G es U H (λxs H1=>oz xs H1 Q) E
 | .lst es,U,H,Q,E=>wEs G es U H (λxs H1=>yG xs H1 Q) E
 | .ix a i,U,H,Q,E=>wE G a U H (λx H1=>wE G i U H1 (λy H2=>wF G.R.K x y H2 Q) E) E
 | .sl a lo hi,U,H,Q,E=>wE G a U H (λx H1=>wO G lo U H1 (λl H2=>wO G hi U H2 (λu H3=>tJ G.R.K x l u H3 Q) E) E) E
 | .fld a f,U,H,Q,E=>wE G a U H (λx H1=>mh G f x H1 Q) E
 | .call f es,U,H,Q,E=>G.cm=true/\wEs G es U H (λvs H1=>G.Ψ f (vs++dflt G f es.len) H1 Q E) E
 | .meth a m es,U,H,Q,E=>G.cm=true/\wE G a U H (λx H1=>∃ p i dx fs f,x=.ref p/\H1 p=some (.ins (G.R.cad i) dx fs)/\fs.lookup m=none/\G.T.me.lookup (i,m)=some f/\
   wEs G es U H1 (λvs H2=>G.Ψ f (x::(vs++dflt G f (es.len+1))) H2 Q E) E) E
 | .lm m a es,U,H,Q,E=>wE G a U H (λx H1=>∃ p xs0,x=.ref p/\H1 p=some (.lst xs0)/\wEs G es U H1 (λvs H2=>∃ xs,H2 p=some (.lst xs)/\t6 m p xs vs H2 Q) E) E
 | .make c es,U,H,Q,E=>G.cm=true/\match G.T.ini.lookup c with
  |none=>G.T.ini0.contains c=true/\wEs G es U H (λvs H1=>vs.length=1/\∀ x,H1 x=none->Q (.ref x) (upd H1 x (.exc (G.R.cad c) none [] true))) E
  |some f=>if G.T.xc.contains c=true then wEs G es U H (λvs H1=>vs.length<=1000/\∀ x,H1 x=none->G.Ψ f (.ref x::(vs++dflt G f (es.len+1))) (upd H1 x (.exc (G.R.cad c) none [] true)) (λv H2=>v=.non/\Q (.ref x) H2) E) E
   else wEs G es U H (λvs H1=>∀ x dx,H1 x=none->H1 dx=none->dx≠x->G.Ψ f (.ref x::(vs++dflt G f (es.len+1))) (upd (upd H1 dx (.own x)) x (.ins (G.R.cad c) dx [])) (λv H2=>v=.non/\Q (.ref x) H2) E) E
 | .bini es,U,H,Q,E=>wEs G es U H (λvs H1=>∃ a i dx fs fr v,vs=[.ref a,v]/\H1 a=some (.exc (G.R.cad i) dx fs fr)/\G.T.xc.contains i=true/\Q .non H1) E
 | .cini c es,U,H,Q,E=>False
 | .bf b es,U,H,Q,E=>wEs G es U H (λvs H1=>jJ G b vs H1 Q) E
 | .isi a c,U,H,Q,E=>wE G a U H (λx H1=>jE G c x H1 Q) E
 | .lc elt sel it,U,H,Q,E=>G.cm=true/\wI G it U H (λJ H1=>tL (λσ' H' Q'=>wE G elt σ' H' Q' E) J (none::fS U sel) H1 Q) E
 | .lci elt c sel it,U,H,Q,E=>G.cm=true/\wI G it U H (λJ H1=>zJ (λσ' H' Q'=>wT G c σ' H' Q' E) (λσ' H' Q'=>wE G elt σ' H' Q' E) J (none::fS U sel) H1 Q) E
 | .lct elt n sel it,U,H,Q,E=>False
 | .lcu elt c n sel it,U,H,Q,E=>False
 | .dnew,_,H,Q,_=>False
 | .sm m a b,U,H,Q,E=>wE G a U H (λx H1=>∃ z,x=.str z/\wE G b U H1 (λy H2=>yD G.R.K m z y H2 Q) E) E
 | .up a,U,H,Q,E=>False
 | .isiT a cs,U,H,Q,E=>False
 | .mk0 c,_,H,Q,_=>sD (G.R.cad c) H Q
 | .disp ks es,U,H,Q,E=>False
 | .dget a k d,U,H,Q,E=>False
 | .dupd a b,U,H,Q,E=>False
 | .rev a b,U,H,Q,E=>False
 | .lix a b,U,H,Q,E=>False
 | .vals tp a,U,H,Q,E=>False
 | .dzip a b,U,H,Q,E=>False
noncomputable def wT (G:Gx):Tx->St->Hp->(Bool->Hp->Prop)->XK->Prop
 | .not a,U,H,Q,E=>wT G a U H (λc H1=>Q (!c) H1) E
 | .and a b,U,H,Q,E=>wT G a U H (λc H1=>gY c (wT G b U H1 Q E) (Q false H1)) E
 | .or a b,U,H,Q,E=>wT G a U H (λc H1=>gY c (Q true H1) (wT G b U H1 Q E)) E
 | .cmp op a b,U,H,Q,E=>wE G a U H (λx H1=>wE G b U H1 (λy H2=>l5 G.R.K op x y H2 λz H3=>match z with| .bl k=>Q k H3|_=>False) E) E
 | .cmp2 o1 o2 a b c,U,H,Q,E=>wE G a U H (λx H1=>wE G b U H1 (λy H2=>l5 G.R.K o1 x y H2 λz H3=>match z with| .bl k=>gY k (wE G c U H3 (λw H4=>l5 G.R.K o2 y w H4 λz H5=>match z with| .bl k=>Q k H5|_=>False) E) (Q false H3)|_=>False) E) E
 | .val e,U,H,Q,E=>wE G e U H (λx H1=>AS G.R.K x H1 Q) E
noncomputable def wEs (G:Gx):fj->St->Hp->(List V->Hp->Prop)->XK->Prop
 | .nil,_,H,Q,_=>Q [] H
 | .cons e es,U,H,Q,E=>wE G e U H (λx H1=>wEs G es U H1 (λxs H2=>Q (x::xs) H2) E) E
noncomputable def wO (G:Gx):EO->St->Hp->(Option Int->Hp->Prop)->XK->Prop
 | .no,_,H,Q,_=>Q none H
 | .yes e,U,H,Q,E=>wE G e U H (λx H1=>match x with| .int i=>Q (some i) H1|_=>False) E
noncomputable def wI (G:Gx):zO->St->Hp->(It->Hp->Prop)->XK->Prop
 | .rng1 a,U,H,R,E=>wE G a U H (λx H1=>match x with| .int j=>-(2 ^ 62)<=j/\j<2 ^ 62/\R (C3 0 j.toNat) H1|_=>False) E
 | .rng2 a b,U,H,R,E=>False
 | .rng3 a b c,U,H,R,E=>False
 | .enm a,U,H,R,E=>wE G a U H (λx H1=>match x with| .ref l=>wR l H1 R|_=>False) E
 | .enf a,U,H,R,E=>False
 | .seq a,U,H,R,E=>wE G a U H (λx H1=>match x with| .ref p=>oB G.R.K p H1 R| .str z=>R (AY z) H1|_=>False) E
 | .zip a b,U,H,R,E=>False
 | .zip3 a b c,U,H,R,E=>False
end
abbrev Fl (D:Ends)(f:St->Hp->Prop):Ends:={ D with nx:=f }
abbrev vL (D:Ends)(N:St->Hp->Prop):Ends:={ D with nx:=N,ct:=N,bk:=D.nx }
abbrev GL (D:Ends)(i:Nat):Ends:={ nx:=λσ' H'=>D.nx (σ'.set i none) H',rt:=D.rt,bk:=λσ' H'=>D.bk (σ'.set i none) H',ct:=λσ' H'=>D.ct (σ'.set i none) H' }
abbrev wG (U:St)(t:EW)(K:W.Frag)(x:V)(H:Hp)(Q:St->Prop):Prop:=match t with
 | .nm i=>Q (U.set i (some x))
 | .tp is=>∃ a xs,x=.ref a/\(cM K H a xs\/aV K H a xs)/\xs.length=is.length/\Q (yF U is xs)
 | .nt i is=>∃ a y b ys,x=.ref a/\cM K H a [y,.ref b]/\cM K H b ys/\ys.length=is.length/\Q (yF (U.set i (some y)) is ys)
@[irreducible] noncomputable def nB (J:It) (D:Ends) (F:(St->Hp->Prop)->V->St->Hp->Prop) (U:St) (H1:Hp):Prop:=∃ W:Nat->Nat->St->Hp->Prop,(∃ m,W 0 m U H1)/\∀ i m U H,W i m U H->
 (J.stop i H/\D.nx U H)\/(J.go i H/\∃ N:St->Hp->Prop,(∀ σ' H',N σ' H'->∃ m',m'<m/\W (i+1) m' σ' H')/\∀ x H',J.yld i H x H'->F N x U H')
mutual
noncomputable def wS:Sx->Gx->Ends->(St->XK)->St->Hp->Prop
 | .asg i e,G,D,E,U,H=>wE G e U H (λx H1=>D.nx (U.set i (some x)) H1) (E U)
 | .asgT is e,G,D,E,U,H=>False
 | .par is es,G,D,E,U,H=>False
 | .sub o i v,G,D,E,U,H=>wE G v U H (λy H1=>wE G o U H1 (λov H2=>wE G i U H2 (λiv H3=>sF ov iv y H3 (λH4=>D.nx U H4)) (E U)) (E U)) (E U)
 | .fld o f v,G,D,E,U,H=>wE G v U H (λy H1=>wE G o U H1 (λx H2=>wC G f x y H2 (λH3=>D.nx U H3)) (E U)) (E U)
 | .aug i op e,G,D,E,U,H=>False
 | .augS o i op e,G,D,E,U,H=>wE G o U H (λov H1=>wE G i U H1 (λiv H2=>vQ G.R.K ov iv H2 (λx H3=>wE G e U H3 (λy H4=>D4 op x y H4 (λz H5=>sF ov iv z H5 (λH6=>D.nx U H6))) (E U))) (E U)) (E U)
 | .augF o f op e,G,D,E,U,H=>wE G o U H (λx H1=>mh G f x H1 (λu H2=>wE G e U H2 (λy H3=>D4 op u y H3 λz H4=>wC G f x z H4 (λH5=>D.nx U H5)) (E U))) (E U)
 | .ret e,G,D,E,U,H=>wE G e U H D.rt (E U)
 | .retN,_,D,_,_,H=>False
 | .pass,_,D,_,U,H=>False
 | .brk,_,D,_,U,H=>False
 | .cont,_,D,_,U,H=>False
 | .expr e,G,D,E,U,H=>wE G e U H (λ_ H1=>D.nx U H1) (E U)
 | .ife c a b,G,D,E,U,H=>wT G c U H (λk H1=>gY k (wB a G D E U H1) (wB b G D E U H1)) (E U)
 | .whl c b,G,D,E,U,H=>∃ W:Nat->St->Hp->Prop,(∃ m,W m U H)/\∀ m U H,W m U H->wT G c U H (λk H1=>gY k (∃ N:St->Hp->Prop,(∀ σ' H',N σ' H'->∃ m',m'<m/\W m' σ' H')/\wB b G (vL D N) E U H1) (D.nx U H1)) (E U)
 | .for t it b,G,D,E,U,H=>G.cm=true/\wI G it U H (λJ H1=>nB J D (λN x U H'=>wG U t G.R.K x H' λσ2=>wB b G (vL D N) E σ2 H') U H1) (E U)
 | .rais e,G,_,E,U,H=>G.cm=true/\wE G e U H (λv H1=>∃ a i dx fs,v=.ref a/\H1 a=some (.exc (G.R.cad i) dx fs true)/\G.T.xc.contains i=true/\E U a (upd H1 a (.exc (G.R.cad i) dx fs false))) (E U)
 | .tryx b hs,G,D,_,U,H=>False
noncomputable def wB:jo->Gx->Ends->(St->XK)->St->Hp->Prop
 | .nil,_,D,_,U,H=>D.nx U H
 | .cons s r,G,D,E,U,H=>wS s G (Fl D λσ1 H1=>wB r G D E σ1 H1) E U H
noncomputable def wH:wA->Gx->Ends->St->Addr->Hp->Prop
 | .nil,_,_,_,_,_=>False
 | .cons c i b hs,G,D,U,e,H=>∃ j dx fs k,H e=some (.exc (G.R.cad j) dx fs false)/\G.T.xc.contains j=true/\G.T.sub.lookup (j,c)=some k/\
   gY k (wB b { G with cm:=false } (GL D i) (λ_ _ _=>False) (U.set i (some (.ref e))) H)
    (wH hs G D U e H)
end
end L3
namespace L3
open PySem PySem.Spec L2 PyProof.Rows
structure Sn where
 T:Tab
 sc:Scope
 N:List Str
abbrev Sn.qJ (S:Sn)(x:Str):Bool:=decide (S.sc.names.lookup x=some .globalImplicit)&& !(x ==("__debug__":Str))
abbrev Sn.ED (S:Sn)(x:Str):Bool:=(decide (S.sc.names.lookup x=some .local)||decide (S.sc.names.lookup x=some .cell)||decide (S.sc.names.lookup x=some .free))&& !(x ==("__debug__":Str))&& !(x ==("__classdict__":Str))
abbrev Sn.loc (S:Sn)(i:Nat)(x:Str):Bool:=decide (S.N[i]? =some x)&&(decide (S.sc.names.lookup x=some .local)||decide (S.sc.names.lookup x=some .cell))
abbrev o7:Expr->Bool
 | .ListComp .. | .SetComp .. | .DictComp ..=>false
 |_=>true
abbrev cC:Expr->Bool
 | .Set ..=>false
 |_=>true
abbrev dY:Expr->Bool
 | .Slice ..=>false
 |_=>true
abbrev d7:Expr->Bool
 | .Call (.Name _ _) [] [] _=>false
 |_=>true
abbrev plainT:Expr->Bool
 | .UnaryOp .Not _ _| .BoolOp .. | .IfExp .. | .Compare ..=>false
 |_=>true
abbrev vO:Bf->String
 | .len=>"len"| .list=>"list"| .tuple=>"tuple"| .int=>"int"| .str=>"str"| .min=>"min"| .max=>"max"| .abs=>"abs"| .all=>"all"| .any=>"any"| .dict=>"dict"| .sum=>"sum"
abbrev vZ:Lm->String
 | .append=>"append"| .extend=>"extend"| .insert=>"insert"| .pop=>"pop"| .clear=>"clear"| .reverse=>"reverse"| .count=>"count"
abbrev uC:Sm->String
 | .join=>"join"| .split=>"split"| .starts=>"startswith"
abbrev iw:List String:=["int","bool","str","list","tuple","dict","ValueError"]
abbrev zq (S:Sn):Cl->Expr->Bool
 | .own c,.Name x _=>S.qJ x&&decide (S.T.gcl.lookup x=some c)
 | .ty n,.Name x _=>S.qJ x&&decide (x=(n:Str))&&S.T.gbl.contains x&&iw.contains n
 |_,_=>false
abbrev di (outer inner:Scope):Scope:=
 { inner with names:=inner.names.map λ(n,k)=>if(k ==.free&&outer.kind ==.function&&outer.names.lookup n ==some .cell) then(n,.cell) else(n,k) }
abbrev eW (S:Sn)(scope:Scope)(xs:List Str)(sel:List Nat):Bool:=
 decide (scope.kind=.function)&&decide (S.sc.kind=.function)&&scope.names.all (λy=>y.2 != .cell&&(y.2 != .local||decide (scope.names.lookup y.1=some .local))&&(y.2 != .free||(decide (S.sc.names.lookup y.1=some .cell))))&&xs.all (λx=>decide (scope.names.lookup x=some .local))&&
 sel.all (λi=>match S.N[i]? with|some y=>decide (S.sc.names.lookup y=some .cell)&&decide ((di S.sc scope).names.lookup y=some .cell)|none=>false)&&decide ((xs++sel.filterMap λi=>S.N[i]?).Nodup)
abbrev EM:List Expr->List Str
 | .Name x _::r=>x::EM r
 |_=>[]
abbrev uP (S:Sn):List Nat->List Expr->Bool
 | [],[]=>true
 |i::is,.Name x _::r=>decide (S.N[i]? =some x)&&decide (S.sc.names.lookup x=some .local)&&uP S is r
 |_,_=>false
abbrev rM:List Str->List (Option Expr)->Bool
 | [],[]=>true
 |k::ks,some (.Constant (.str x) _ _)::r=>decide (k=x)&&rM ks r
 |_,_=>false
mutual
noncomputable def mE (S:Sn):Ex->Expr->Bool
 | .v i,e=>match e with| .Name x _=>decide (S.N[i]? =some x)&&S.ED x|_=>false
 | .int i,e=>match e with| .Constant y1 _ _=>(match y1 with| .int j=>decide (i=j)|_=>false)|_=>false
 | .bl i,e=>match e with| .Constant y1 _ _=>(match y1 with| .bool j=>decide (i=j)|_=>false)|_=>false
 | .non,e=>match e with| .Constant y1 _ _=>(match y1 with| .none=>true|_=>false)|_=>false
 | .str i,e=>match e with| .Constant y1 _ _=>(match y1 with| .str j=>decide (i=j)|_=>false)|_=>false
 | .gl x,e=>match e with| .Name y _=>decide (x=y)&&S.qJ y|_=>false
 | .bin op a b,e=>match e with| .BinOp a' op' b' _=>decide (op=op')&&mE S a a'&&mE S b b'|_=>false
 | .neg a,e=>match e with| .UnaryOp y1 a' _=>(match y1 with| .USub=>mE S a a'|_=>false)|_=>false
 | .not a,e=>match e with| .UnaryOp y1 a' _=>(match y1 with| .Not=>mE S a a'|_=>false)|_=>false
 | .and a b,e=>match e with| .BoolOp y1 y2 p=>(match y1 with| .And=>(match y2 with|a'::b'::r=>mE S a a'&&mE S b (match r with| []=>b'|_=>.BoolOp .And (b'::r) p)|_=>false)|_=>false)|_=>false
 | .or a b,e=>match e with| .BoolOp y1 y2 p=>(match y1 with| .Or=>(match y2 with|a'::b'::r=>mE S a a'&&mE S b (match r with| []=>b'|_=>.BoolOp .Or (b'::r) p)|_=>false)|_=>false)|_=>false
 | .cmp op a b,e=>match e with| .Compare a' y1 y2 _=>(match y1 with| [op']=>(match y2 with| [b']=>decide (op=op')&&mE S a a'&&mE S b b'&&cC b'|_=>false)|_=>false)|_=>false
 | .cmp2 o1 o2 a b c,e=>match e with| .Compare a' y1 y2 _=>(match y1 with| [p1,p2]=>(match y2 with| [b',c']=>decide (o1=p1)&&decide (o2=p2)&&mE S a a'&&mE S b b'&&mE S c c'&&cC c'|_=>false)|_=>false)|_=>false
 | .cmp3 o1 o2 o3 a b c d,_=>false
 | .ife c a b,e=>match e with| .IfExp c' a' b' _=>mT S c c'&&mE S a a'&&mE S b b'|_=>false
 | .tup es,e=>match e with| .Tuple es' _ _=>jz S es es'|_=>false
 | .lst es,e=>match e with| .List es' _=>jz S es es'|_=>false
 | .ix a i,e=>match e with| .Subscript a' i' _=>mE S a a'&&mE S i i'&&dY i'|_=>false
 | .sl a lo hi,e=>match e with| .Subscript a' y1 _=>(match y1 with| .Slice lo' hi' y2 _=>(match y2 with|none=>mE S a a'&&mO S lo lo'&&mO S hi hi'|_=>false)|_=>false)|_=>false
 | .fld a f,e=>match e with| .Attribute a' f' _=>mE S a a'&&decide (f=f')&&d7 a'|_=>false
 | .call f es,e=>match e with| .Call y1 es' y2 _=>(match y1 with| .Name x _=>(match y2 with| []=>S.qJ x&&decide (S.T.gfn.lookup x=some f)&&jz S es es'|_=>false)|_=>false)|_=>false
 | .meth a m es,e=>match e with| .Call y1 es' y2 q=>(match y1 with| .Attribute a' m' p=>(match y2 with| []=>mE S a a'&&decide (m=m')&&jz S es es'&&d7 a'&&(p.endLine ==q.line)&&decide (es.len<20)|_=>false)|_=>false)|_=>false
 | .dget a k d,_=>false
 | .dupd a b,_=>false
 | .rev a b,_=>false
 | .lix a b,_=>false
 | .lm m a es,e=>match e with| .Call y1 es' y2 q=>(match y1 with| .Attribute a' m' p=>(match y2 with| []=>mE S a a'&&decide (m'=(vZ m:Str))&&jz S es es'&&d7 a'&&(p.endLine ==q.line)&&decide (es.len<20)|_=>false)|_=>false)|_=>false
 | .make c es,e=>match e with| .Call y1 es' y2 _=>(match y1 with| .Name x _=>(match y2 with| []=>S.qJ x&&decide (S.T.gcl.lookup x=some c)&&jz S es es'|_=>false)|_=>false)|_=>false
 | .bini es,e=>match e with| .Call y1 es' y2 q=>(match y1 with| .Attribute y3 m p=>(match y3 with| .Name x _=>(match y2 with| []=>S.qJ x&&decide (m=("__init__":Str))&&S.T.gbi.contains x&&jz S es es'&&decide (es.len=2)&&(p.endLine ==q.line)|_=>false)|_=>false)|_=>false)|_=>false
 | .cini c es,_=>false
 | .bf b es,e=>match e with| .Call y1 es' y2 _=>(match y1 with| .Name x _=>(match y2 with| []=>S.qJ x&&decide (x=(vO b:Str))&&S.T.gbl.contains x&&jz S es es'&&decide (0<es.len)|_=>false)|_=>false)|_=>false
 | .isi a c,e=>match e with| .Call y1 y2 y3 _=>(match y1 with| .Name x _=>(match y3 with| []=>(match y2 with| [a',c']=>S.qJ x&&decide (x=("isinstance":Str))&&S.T.gbl.contains x&&mE S a a'&&zq S c c'|_=>false)|_=>false)|_=>false)|_=>false
 | .lc elt sel it,e=>match e with| .ListComp elt' y1 scope _=>(match y1 with| [y2]=>(match y2 with|⟨y3,iter,y4,y5⟩=>(match y3 with| .Name x px=>(match y4 with| []=>(match y5 with|0=>eW S scope [x] sel&&mI S it (.Name x px) iter&&mE { S with sc:=di S.sc scope,N:=x::sel.filterMap λi=>S.N[i]? } elt elt'&&cC iter|_=>false)|_=>false)|_=>false))|_=>false)|_=>false
 | .lci elt c sel it,e=>match e with| .ListComp elt' y1 scope _=>(match y1 with| [y2]=>(match y2 with|⟨y3,iter,y4,y5⟩=>(match y3 with| .Name x px=>(match y4 with| [c']=>(match y5 with|0=>eW S scope [x] sel&&mI S it (.Name x px) iter&&mE { S with sc:=di S.sc scope,N:=x::sel.filterMap λi=>S.N[i]? } elt elt'&&mT { S with sc:=di S.sc scope,N:=x::sel.filterMap λi=>S.N[i]? } c c'&&cC iter|_=>false)|_=>false)|_=>false))|_=>false)|_=>false
 | .lct elt n sel it,_=>false
 | .lcu elt c n sel it,_=>false
 | .dnew,_=>false
 | .sm m a b,e=>match e with| .Call y1 es' y2 q=>(match y1 with| .Attribute a' m' p=>(match y2 with| []=>(match es' with| [b']=>mE S a a'&&decide (m'=(uC m:Str))&&mE S b b'&&notStar b'&&d7 a'&&(p.endLine ==q.line)|_=>false)|_=>false)|_=>false)|_=>false
 | .up a,_=>false
 | .isiT a cs,_=>false
 | .mk0 c,e=>match e with| .Call y1 y2 y3 _=>(match y1 with| .Name x _=>(match y2 with| []=>(match y3 with| []=>S.qJ x&&decide (S.T.gcl.lookup x=some c)&&S.T.inip.contains c|_=>false)|_=>false)|_=>false)|_=>false
 | .disp ks es,_=>false
 | .vals tp a,_=>false
 | .dzip a b,_=>false
noncomputable def mT (S:Sn):Tx->Expr->Bool
 | .not a,e=>match e with| .UnaryOp y1 a' _=>(match y1 with| .Not=>mT S a a'|_=>false)|_=>false
 | .and a b,e=>match e with| .BoolOp y1 y2 p=>(match y1 with| .And=>(match y2 with|a'::b'::r=>mT S a a'&&mT S b (match r with| []=>b'|_=>.BoolOp .And (b'::r) p)|_=>false)|_=>false)|_=>false
 | .or a b,e=>match e with| .BoolOp y1 y2 p=>(match y1 with| .Or=>(match y2 with|a'::b'::r=>mT S a a'&&mT S b (match r with| []=>b'|_=>.BoolOp .Or (b'::r) p)|_=>false)|_=>false)|_=>false
 | .cmp op a b,e=>match e with| .Compare a' y1 y2 _=>(match y1 with| [op']=>(match y2 with| [b']=>decide (op=op')&&mE S a a'&&mE S b b'&&cC b'|_=>false)|_=>false)|_=>false
 | .cmp2 o1 o2 a b c,e=>match e with| .Compare a' y1 y2 _=>(match y1 with| [p1,p2]=>(match y2 with| [b',c']=>decide (o1=p1)&&decide (o2=p2)&&mE S a a'&&mE S b b'&&mE S c c'&&cC c'|_=>false)|_=>false)|_=>false
 | .val e,e'=>mE S e e'&&plainT e'
noncomputable def jz (S:Sn):fj->List Expr->Bool
 | .nil,es=>es.isEmpty
 | .cons e es,l=>match l with|e'::es'=>mE S e e'&&notStar e'&&jz S es es'| []=>false
noncomputable def mO (S:Sn):EO->Option Expr->Bool
 | .no,o=>o.isNone
 | .yes e,o=>match o with|some e'=>mE S e e'|none=>false
noncomputable def mI (S:Sn):zO->Expr->Expr->Bool
 | .rng1 a,_,e=>match e with| .Call y1 y2 y3 _=>(match y1 with| .Name x _=>(match y3 with| []=>(match y2 with| [a']=>S.qJ x&&decide (x=("range":Str))&&S.T.gbl.contains x&&mE S a a'&&notStar a'|_=>false)|_=>false)|_=>false)|_=>false
 | .rng2 a b,_,e=>false
 | .rng3 a b c,_,e=>false
 | .enm a,t,e=>match e with| .Call y1 y2 y3 _=>(match y1 with| .Name x _=>(match y3 with| []=>(match y2 with| [a']=>S.qJ x&&decide (x=("enumerate":Str))&&S.T.gbl.contains x&&mE S a a'&&notStar a'&&(match t with| .Tuple ..=>true|_=>false)|_=>false)|_=>false)|_=>false)|_=>false
 | .enf a,t,e=>false
 | .seq a,_,e=>mE S a e
 | .zip a b,t,e=>false
 | .zip3 a b c,t,e=>false
end
end L3
namespace L3
open PySem PySem.Spec L2
variable {e:Expr}
def plainT_ok (h:plainT e=true)(env:Env)(whole:Sem Value):isTrue e env whole=(do let v <-whole;standAt e.pos;holding [v] (truthy v)):=by
 cases e<;>first|rfl|(cases h)|skip
 case UnaryOp op a p=>cases op<;>first|rfl|cases h
def bA (h:cC e=true)(env:Env)(x:Value):foldedSetIterable e env x=pure x:=by
 cases e<;>first|rfl|cases h
def dD (h:cC e=true)(op:CmpOp):behindInMarks op e=false:=by
 cases e<;>first|rfl|cases h
def fu (h:o7 e=true)(t:Option Expr)(n:Nat)(env:Env):swapsWith e t n env=pure false:=by
 cases e<;>first|rfl|cases h
variable {o:Expr}
def bI (h:d7 o=true)(a:Str)(env:Env)(whole:Sem Value):attributeBase o a env whole=whole:=by
 cases o with
 |Call f as ks p=>
  cases f<;>first|rfl|skip
  case Name x q=>
   cases as with
   |nil=>cases ks with
    |nil=>cases h
    |cons k ks=>rfl
   |cons b bs=>rfl
 |_=>rfl
variable {b:Expr}
def nQ (h:dY b=true):qi b:=by
 intro o i;cases b<;>first|rfl|cases h
variable {X:Cx}
def PE.cP {t:TE}(h:PE X e t):PE X e (λU H R=>∃ Q,t U H Q/\∀ x H1,Q x H1->R x H1):=λY s U H R I ⟨Q,q,i⟩=>
 aG (h Y s U H Q I q) λ_ _ ⟨v,H',J,r,z⟩=>⟨v,H',J,r,i _ _ z⟩
variable {t:TT}
def PT.cP (h:PT X e t):PT X e (λU H R=>∃ Q,t U H Q/\∀ x H1,Q x H1->R x H1):=λY s U H R I ⟨Q,q,i⟩=>
 aG (h Y s U H Q I q) λ_ _ ⟨H',J,z⟩=>⟨H',J,i _ _ z⟩
def PA.cP {e:List Expr}{t:TA}(h:PA X e t):PA X e (λU H R=>∃ Q,t U H Q/\∀ x H1,Q x H1->R x H1):=λpos Y s U H R I ⟨Q,q,i⟩=>
 aG (h pos Y s U H Q I q) λ_ _ ⟨v,H',J,r,z⟩=>⟨v,H',J,r,i _ _ z⟩
def PE.imp {t t':TE}(h:PE X e t)(hi:∀ U H Q,t' U H Q->t U H Q):PE X e t':=λY s U H Q I q=>h Y s U H Q I (hi _ _ _ q)
def PT.imp {t':TT}(h:PT X e t)(hi:∀ U H Q,t' U H Q->t U H Q):PT X e t':=λY s U H Q I q=>h Y s U H Q I (hi _ _ _ q)
def PS.imp {e:Stmt}{t t':TS}(h:PS X e t)(hi:∀ D U H,t' D U H->t D U H):PS X e t':=λY s U H D I q=>h Y s U H D I (hi _ _ _ q)
structure vD (P:Program) (w:World) (K:W.Frag) (mg:HE) (base:Heap) (k:Nat) (f:Addr) (d:aH) (sp:Sp):Prop where
 fact:∃ fd,cF P w K mg base (vJ P w) k f fd d.ps sp/\∀ j,∃ ds,Binds K fd d.ps ds/\Vals (d.dfl.drop j) ds
 own:∀ fd oc od osl,K.lookup f=some ⟨oc,od,.func fd,osl⟩->cF P w K mg base (vJ P w) k f fd d.ps sp
structure yh (K:W.Frag) (mg:HE) (T:Tab) (R:Rt):Prop where
 gfn:∀ x f,T.gfn.lookup x=some f->mg x=some (.ref (R.fad f))/\W.keepIn K (.ref (R.fad f))=true/\∃ d,T.fns[f]? =some d
 gcl:∀ x c,T.gcl.lookup x=some c->mg x=some (.ref (R.cad c))
 gbl:∀ x,T.gbl.contains x=true->mg x=none/\x≠"__name__"
 gbi:∀ x,T.gbi.contains x=true->∃ B,mg x=some (.ref B)/\GK K B
 gl:∀ x v,R.gl x=some v->∃ u,mg x=some u/\RelV v u
 na:∀ i f,T.na.contains (i,f)=true->dF K (R.cad i) f
 me:∀ i m f,T.me.lookup (i,m)=some f->xm K (R.cad i)/\Meth K (R.cad i) m (R.fad f)/\∃ d,T.fns[f]? =some d
 ini0:∀ c,T.ini0.contains c=true->Ba K (R.cad c)
 inip:∀ c,T.inip.contains c=true->Gy K (R.cad c)
 ini:∀ c f,T.ini.lookup c=some f->(∃ d,T.fns[f]? =some d)/\if T.xc.contains c=true then E7 K (R.cad c) (R.fad f) else Mk K (R.cad c) (R.fad f)
 oc:∀ c,T.oc.contains c=true->xm K (R.cad c)/\FV K (R.cad c)
 xc:∀ c,T.xc.contains c=true->bY K (R.cad c)/\vB K (R.cad c)
 sub:∀ i j b,T.sub.lookup (i,j)=some b->W.kitOne K (.ref (R.cad i)) (.ref (R.cad j))=some b/\(T.xc.contains i=true->W.mroIn K (R.cad i) (.ref (R.cad j))=some b/\bY K (R.cad j))
 subT:∀ i n b,T.subT.lookup (i,n)=some b->W.kitOne K (.ref (R.cad i)) (.type n)=some b
 subB:∀ t n b,T.subB.lookup (t,n)=some b->W.kitOne K (.type t) (.type n)=some b
 subO:∀ t j b,T.subO.lookup (t,j)=some b->W.kitOne K (.type t) (.ref (R.cad j))=some b
 cin:∀ c f,T.cin.lookup c=some f->GQ K (R.cad c) (R.fad f)/\∃ d,T.fns[f]? =some d
structure Gd (X:Cx) (G:Gx) (S:Sn) (k:Nat) (E:St->XK):Prop where
 hK:G.R.K=X.K
 hT:S.T=G.T
 sc:X.env.scope=S.sc
 N:X.N=S.N
 nd:S.N.Nodup
 pass:Passes (vJ X.prog X.w) X E
 cm:G.cm=true->X.calm=true
 xok:G.cm=true->D6 X E
 xst:∃ e0 o0 L,X.stack=e0::o0/\e0.frame=some L/\X.env.frame=some L
 room:G.cm=true->bC (k+1) X.A
 un:X.A.units+200<cLine
 tab:yh X.K X.mg G.T G.R
 fns:∀ f d,G.T.fns[f]? =some d->vD X.prog X.w X.K X.mg X.base k (G.R.fad f) d (G.Ψ f)
variable {x:Str}{l es:List Expr}
section
variable {X:Cx}{G:Gx}{S:Sn}{k:Nat}{E:St->XK}
def Gd.cx (g:Gd X G S k E)(hc:G.cm=true)(U:St):ke X U (E U):=⟨λH s e C dx fs=>g.xok hc U H s e C dx fs,g.xst⟩
def Gd.bin (g:Gd X G S k E)(op:Operator):cL X (binaryOp op) (B1 G.R.K op):=g.hK▸BH op
def Gd.cmp (g:Gd X G S k E)(op:CmpOp):cL X (compareOp op) (l5 G.R.K op):=g.hK▸AV g.un op
def Gd.glob (g:Gd X G S k E)(h:S.qJ x=true):Gl X x/\(x ==("__debug__":Str))=false:=by
 unfold Sn.qJ at h;simp only[nb,decide_eq_true_eq,Bool.not_eq_true']at h;refine⟨?_,h.2⟩;show X.env.scope.names.lookup x=_;rw[g.sc];exact h.1
def Gd.ED (g:Gd X G S k E)(h:S.ED x=true):ES X.env.scope x/\(x ==("__debug__":Str))=false/\(x ==("__classdict__":Str))=false:=by
 unfold Sn.ED at h;simp only[nb,Bool.or_eq_true,decide_eq_true_eq,Bool.not_eq_true']at h;refine⟨?_,h.1.2,h.2⟩;unfold ES;rw[g.sc];rcases h.1.1 with(h|h)|h
 .exact .inl h
 .exact .inr (.inl h)
 .exact .inr (.inr h)
def Gd.loc (g:Gd X G S k E){i:Nat}(h:S.loc i x=true):X.N[i]? =some x/\L2.Loc X.env.scope x:=by
 unfold Sn.loc at h;simp only[nb,Bool.or_eq_true,decide_eq_true_eq]at h;rw[g.N];refine⟨h.1,?_⟩;unfold L2.Loc;rw[g.sc];exact h.2
def aP:∀ {es:fj}{l:List Expr},jz S es l=true->∀ (env:Env) (pos:Pos),(backTo pos (bv l env)).any (·.1)=false
 | .nil,[],_,_,_=>rfl
 | .nil,_::_,h,_,_=>by cases(show false=true from h)
 | .cons e es,[],h,_,_=>by cases(show false=true from h)
 | .cons e es,e'::l,h,env,pos=>by
  have h:(mE S e e'&&notStar e'&&jz S es l)=true:=h;simp only[nb]at h;rw[ag h.1.2];show((backTo pos (bv l env)).any (·.1))=false;exact aP h.2 env pos
def lb:∀ {es:fj}{l:List Expr},jz S es l=true->l.length=es.len
 | .nil,[],_=>rfl
 | .nil,_::_,h=>by cases(show false=true from h)
 | .cons e es,[],h=>by cases(show false=true from h)
 | .cons e es,e'::l,h=>by
  have h:(mE S e e'&&notStar e'&&jz S es l)=true:=h;simp only[nb]at h;show l.length+1=es.len+1;rw[lb h.2]
def bg {es:fj}(h:jz S es (e::l)=true):notStar e=true/\∃ x es',es=.cons x es'/\jz S es' l=true:=by
 cases es with
 |nil=>cases(show false=true from h)
 |cons x es'=>
  have h:(mE S x e&&notStar e&&jz S es' l)=true:=h;simp only[nb]at h;exact⟨h.1.2,x,es',rfl,h.2⟩
def pU:∀ {es:fj}{l:List Expr},jz S es l=true->es.len<20->∀ (env:Env) (cpos:Pos),methodCallForm (l.length+([]:List Keyword).length) (backTo cpos (bv l env)) (backToKw cpos (keywordEach [] env))=true:=by
 intro es l h hl env cpos;have h1:=aP h env cpos;have h2:=lb h;have h3:(backTo cpos (bv l env)).all (λx=>!x.1)=true:=by
  rw[all_eq_true];intro x hx;rw[any_eq_false]at h1;simpa using h1 x hx
 unfold methodCallForm;rw[h3,h2];simp[keywordEach,backToKw]
 omega
def jR {m:Str}{apos pos:Pos}{env:Env}(hb:d7 o=true)(hf:methodCallForm (es.length+([]:List Keyword).length) (backTo pos (bv es env)) (backToKw pos (keywordEach [] env))=true)(hl:(apos.endLine ==pos.line)=true):
  eval (.Call (.Attribute o m apos) es [] pos) env=(do
   let ov <-eval o env
   standAt apos.atName
   let(f,first) <-holding [ov] (getMethod ov m (do return (<-importBound o env).getD true))
   callWith pos f first (backTo pos (bv es env)) (backToKw pos (keywordEach [] env))):=by
 show(do
  let ov <-attributeBase o m env (eval o env)
  standAt apos.atName
  methodCall o m apos pos env ov (es.length+([]:List Keyword).length) (backTo pos (bv es env)) (backToKw pos (keywordEach [] env)))=_
 rw[bI hb];unfold methodCall calleeOf methodCallPos;rw[hf,hl]
 rfl
def uA {es:fj}(h:jz S es (e::l)=true)(hl:es.len<20)(env:Env)(cpos:Pos):
  ((backTo cpos (bv (e::l) env)).all (λx=>!x.1)&&(backToKw cpos (keywordEach [] env)).all (λx=>x.1.isSome)
   &&decide ((e::l).length+([]:List Keyword).length+(if([]:List Keyword).isEmpty then 0 else 1)<30))=true:=by
 have h1:=aP h env cpos;have h2:=lb h;have h3:(backTo cpos (bv (e::l) env)).all (λx=>!x.1)=true:=by
  rw[all_eq_true];intro x hx;rw[any_eq_false]at h1;simpa using h1 x hx
 rw[h3,h2];simp[keywordEach,backToKw]
 omega
def xK {b:Ex}{b':Expr}(h:mE S b b'=true)(n:notStar b'=true)(env:Env)(cpos:Pos):
  ((backTo cpos (bv [b'] env)).all (λx=>!x.1)&&(backToKw cpos (keywordEach [] env)).all (λx=>x.1.isSome)
   &&decide (([b']:List Expr).length+([]:List Keyword).length+(if([]:List Keyword).isEmpty then 0 else 1)<30))=true:=
 uA (es:=.cons b .nil) (by show(mE S b b'&&notStar b'&&true)=true;rw[h,n];rfl) (pi rfl) env cpos
end
variable {K:W.Frag}{H:Hp}{Y:HD}{a:Addr}
section
variable {X:Cx}{G:Gx}{S:Sn}{k:Nat}{E:St->XK}
def kf {x:V}{t:String}(h:tyName x H=some t):gh K H x (.type t):=by
 unfold tyName at h
 split at h
 .cases h;exact .non
 .cases h;exact .bl _
 .cases h;exact .int _
 .cases h;exact .str _
 .split at h
  .rename_i e;cases h;exact .lst e
  .rename_i e;cases h;exact .tup e
  .rename_i e;cases h;exact .dK (.inl e)
  .rename_i e;cases h;exact .dK (.inr ⟨_,e⟩)
  .cases h
 .cases h
def qc {s:Shared}{U:St}{Q:VK}{i:Nat}{b:Bool}{cv:Value}(g:Gd X G S k E)(I:Inv X Y U H s)(o:uD G H a i)
  (e:W.kitOne X.K (.ref (G.R.cad i)) cv=some b) (q:Q (.bl b) H):wpAny (model X.prog X.w) X.A (call (.builtin "isinstance") [.ref a,cv]) (EP X Y U Q) X.xe s:=by
 rcases o with⟨ho,dx,fs,ha⟩|⟨ho,dx,fs,fr,ha⟩
 .obtain⟨c,z⟩:=g.tab.oc i ho;exact gz I (x:=.ref a) rfl (.ins ha c z.ha z.hn z.htk z.hm) e λtk=>⟨.bl b,H,I.tok _,rfl,q⟩
 .obtain⟨c,z⟩:=g.tab.xc i ho;exact uG I ha c z e λtk=>⟨.bl b,H,I.tok _,rfl,q⟩
def xD (g:Gd X G S k E)(j:Nat):dy X (.builtin "isinstance") (λvs H Q=>∃ x,vs=[x,.ref (G.R.cad j)]/\jE G (.own j) x H Q):=by
 intro Y s U H xs us Q I r h;obtain⟨x,rfl,h⟩:=h;obtain⟨u,w',rfl,rx,rT⟩:=vals2 r;obtain rfl:w'=Value.ref (G.R.cad j):=rT;unfold jE at h;rcases h with⟨t,b,ht,hb,q⟩|⟨a,i,b,rfl,ho,hb,q⟩
 .exact gz I rx (kf ht) (g.tab.subO t j b hb) λtk=>⟨.bl b,H,I.tok _,rfl,q⟩
 .obtain rfl:u=Value.ref a:=rx;exact qc g I ho (g.tab.sub i j b hb).1 q
def BS (g:Gd X G S k E)(n:String):dy X (.builtin "isinstance") (λvs H Q=>∃ x,vs=[x,.ty n]/\jE G (.ty n) x H Q):=by
 intro Y s U H xs us Q I r h;obtain⟨x,rfl,h⟩:=h;obtain⟨u,w',rfl,rx,rT⟩:=vals2 r;obtain rfl:w'=Value.type n:=rT;unfold jE at h;rcases h with⟨t,b,ht,hb,q⟩|⟨a,i,b,rfl,ho,hb,q⟩
 .exact gz I rx (kf ht) (g.tab.subB t n b hb) λtk=>⟨.bl b,H,I.tok _,rfl,q⟩
 .obtain rfl:u=Value.ref a:=rx;exact qc g I ho (g.tab.subT i n b hb) q
def y8 {n:String}(h:iw.contains n=true):bootBuiltins (n:Str)=some (.type n):=by
 have h':n ∈ iw:=by simpa using h
 simp only[iw,mo,not_mem_nil,or_false]at h';rcases h' with rfl|rfl|rfl|rfl|rfl|rfl|rfl<;>decide+kernel
abbrev Gg (G:Gx):Cl->V
 | .own c=>.ref (G.R.cad c)
 | .ty n=>.ty n
def El (g:Gd X G S k E){c:Cl}(h:zq S c e=true):PE X e (tC (Gg G c)):=by
 unfold zq at h
 split at h
 .simp only[nb,decide_eq_true_eq]at h;obtain⟨hg,hd⟩:=g.glob h.1;exact qh hg (g.tab.gcl _ _ (g.hT▸h.2)) rfl hd
 .simp only[nb,decide_eq_true_eq]at h;obtain⟨⟨⟨h1,rfl⟩,h3⟩,h4⟩:=h;obtain⟨hg,hd⟩:=g.glob h1;obtain⟨hm,hn⟩:=g.tab.gbl _ (g.hT▸h3);exact yq hg hm (y8 h4) rfl hn hd
 .cases h
def Cs (g:Gd X G S k E)(c:Cl):dy X (.builtin "isinstance") (λvs H Q=>∃ x,vs=[x,Gg G c]/\jE G c x H Q):=by
 cases c with
 |own j=>exact xD g j
 |ty n=>exact BS g n
abbrev uc:Bf->Value
 | .len=>.builtin "len"| .list=>.type "list"| .tuple=>.type "tuple"| .int=>.type "int"| .str=>.type "str"| .min=>.builtin "min"| .max=>.builtin "max"| .abs=>.builtin "abs"| .all=>.builtin "all"| .any=>.builtin "any"| .dict=>.type "dict"| .sum=>.builtin "sum"
def xh (b:Bf):bootBuiltins (vO b:Str)=some (uc b):=by cases b<;>decide+kernel
def qS:∀ {bs:List Bool}{us:List Value},Vals (bs.map V.bl) us->PyProof.Rows.LSm.BoolsAre us bs
 | [],_,h=>by cases h;exact .nil
 |b::bs,_,h=>by
  cases h with
  |cons r1 r2=>
   obtain rfl:_=Value.bool b:=r1;exact .cons b (qS r2)
def sk (hc:X.calm=true):dy X (.builtin "all") (λxs H Q=>∃ p,∃ bs:List Bool,xs=[.ref p]/\aV X.K H p (bs.map V.bl)/\Q (.bl (bs.all id)) H):=by
 intro Y s U H xs us Q I r h;obtain⟨p,bs,rfl,hq,q⟩:=h;obtain⟨u,rfl,rx⟩:=vals1 r;cases rx;obtain⟨its,r',pl,hz⟩:=I.list hq;have hb:=qS r';have hl:=pl.isList;have lt:p<s.heap.objs.size:=by obtain⟨_,e,_⟩:=hl;exact ul e
 refine call_all_walk (wpAny_pyIter_list hl ⟨s.heap.objs.size,[s.heap.objs.size,p],[s.heap.objs.size],its.toArray.size,_,_,λi=>(bs[i]?).getD true,rfl,
  Walks.list (A:=X.A.in1) (I.ok.hd hc) _ p (re lt) its.toArray,⟨⟨_,ut _ rfl,rfl,rfl⟩,hl.push _⟩,λi v s' Q' E' hP hQ=>?_,λh' tk hk=>?_⟩)
 .obtain⟨b,e,rfl⟩:=hb.get i v (by simpa using hP);have hQ:Q' ((bs[i]?).getD _) s':=hQ;rw[e]at hQ;exact bn hQ
 .have e:((List.range its.toArray.size).all λi=>(bs[i]?).getD true)=bs.all id:=by
   rw[io,hb.length,PyProof.Rows.LSm.range_all]
  rw[e];exact⟨.bl _,H,I.kept (PyProof.Rows.LSm.kept_iter hk),rfl,q⟩
def Dp (g:Gd X G S k E)(b:Bf):dy X (uc b) (jJ G b):=by
 intro Y s U H xs us Q I r h;unfold jJ at h;rw[g.hK]at h;cases b with
 |len=>exact uI Y s U H _ us Q I r h
 |list=>
  rcases h with h|⟨hc,p,kvs,rfl,hp,q⟩
  .exact lE Y s U H _ us Q I r h
  .obtain⟨u,rfl,ru⟩:=vals1 r;cases ru;exact ow (g.cm hc) I hp q
 |tuple=>exact h.elim
 |int=>
  rcases h with h|⟨z,n,rfl,hn,hl,q⟩
  .exact rK Y s U H _ us Q I r h
  .obtain⟨u,rfl,t,rfl⟩:=vals1 r;exact sx hn hl ⟨.int n,H,I.tok _,⟨_,rfl⟩,q⟩
 |str=>
  rcases h with h|⟨z,rfl,q⟩
  .exact lB Y s U H _ us Q I r h
  .obtain⟨u,rfl,t,rfl⟩:=vals1 r;exact PySem.P.str_of_str ⟨.str z,H,I,⟨_,rfl⟩,q⟩
 |min=>exact h.elim
 |max=>exact h.elim
 |abs=>exact h.elim
 |all=>exact sk (g.cm h.1) Y s U H _ us Q I r h.2
 |any=>exact h.elim
 |dict=>exact h.elim
 |sum=>exact h.elim
abbrev Ce:Lm->String
 | .append=>"list.append"| .extend=>"list.extend"| .insert=>"list.insert"| .pop=>"list.pop"| .clear=>"list.clear"| .reverse=>"list.reverse"| .count=>"list.count"
def pS (m:Lm):Slot "list" (vZ m:Str) (Ce m):=by
 cases m
 .exact PySem.F.slot_list_append
 .exact PySem.F.slot_list_extend
 .exact PySem.F.slot_list_insert
 .exact PySem.F.slot_list_pop
 .exact PySem.F.slot_list_clear
 .exact PySem.F.slot_list_reverse
 .exact PySem.F.slot_list_count
def Am (m:Lm):typeOf (.builtin (Ce m))=pure (.type "method_descriptor"):=by cases m<;>rfl
abbrev G7 (m:Lm):V->List V->Hp->VK->Prop:=λx vs H Q=>∃ p xs,x=.ref p/\H p=some (.lst xs)/\t6 m p xs vs H Q
def Al (m:Lm):zP X (Ce m) (G7 m):=by
 intro Y s U H x vs v us Q I rx rv h;obtain⟨p,xs,rfl,hp,h⟩:=h;unfold t6 at h;cases m with
 |append=>
  obtain⟨y,rfl,h⟩:=h;exact gB Y s U H _ _ v us Q I rx rv ⟨p,xs,_,rfl,rfl,hp,Nat.lt_of_le_of_lt h.1 (by decide),h.2⟩
 |extend=>
  obtain⟨b,zs,rfl,hz,hl,q⟩:=h;exact rH Y s U H _ _ v us Q I rx rv ⟨p,_,xs,zs,rfl,rfl,hp,hz,hW nofun,q⟩
 |insert=>
  obtain⟨i,y,rfl,h⟩:=h;exact rj Y s U H _ _ v us Q I rx rv ⟨p,xs,_,_,rfl,rfl,hp,h.1,h.2.1,Nat.lt_of_le_of_lt h.2.2.1 (by decide),h.2.2.2⟩
 |pop=>exact h.elim
 |clear=>exact h.elim
 |reverse=>exact h.elim
 |count=>exact h.elim
abbrev B3:Sm->String
 | .join=>"str.join"| .split=>"str.split"| .starts=>"str.startswith"
def zv (m:Sm):Slot "str" (uC m:Str) (B3 m):=by
 cases m
 .exact PySem.F.slot_str_join
 .exact PySem.F.slot_str_split
 .exact PySem.F.slot_str_startswith
def DR (m:Sm):typeOf (.builtin (B3 m))=pure (.type "method_descriptor"):=by cases m<;>rfl
abbrev GV (K:W.Frag)(m:Sm):V->List V->Hp->VK->Prop:=λx vs H Q=>∃ z y,x=.str z/\vs=[y]/\yD K m z y H Q
def Eb (m:Sm):zP X (B3 m) (GV X.K m):=by
 intro Y s U H x vs v us Q I rx rv h;obtain⟨z,y,rfl,rfl,h⟩:=h;unfold yD at h;cases m with
 |join=>exact xl Y s U H _ _ v us Q I rx rv h
 |split=>exact uy Y s U H _ _ v us Q I rx rv h
 |starts=>exact sL Y s U H _ _ v us Q I rx rv h
def uk {m:Str}{apos pos:Pos}{ta:TE}{t:TA}{pl:Sem Bool}{n:Nat}(g:Gd X G S k E)(hc:G.cm=true)(he:PE X o ta)(ha:PA X es t)
  (hnil:es=[]->∀ U H R,t U H R->R [] H) (hst:∀ e r,es=e::r->bv es X.env=(false,eval e X.env)::bv r X.env) (hpl:∀ e r,es=e::r->(backTo pos (bv r X.env)).any (·.1)=false)
  (ht:eval (.Call (.Attribute o m apos) es [] pos) X.env=(do
   let ov <-eval o X.env
   standAt apos.atName
   let(f,first) <-holding [ov] (getMethod ov m pl)
   callWith pos f first (backTo pos (bv es X.env)) (backToKw pos (keywordEach [] X.env)))):
  PE X (.Call (.Attribute o m apos) es [] pos) (λU H Q=>ta U H λx H1=>∃ p i dx fs f,x=.ref p/\H1 p=some (.ins (G.R.cad i) dx fs)/\fs.lookup m=none/\G.T.me.lookup (i,m)=some f/\
   t U H1 λvs H2=>G.Ψ f (x::(vs++dflt G f n)) H2 Q (E U)):=by
 intro Y s U H Q I h;refine W.methodCall_KW (pl:=pl) (aG (he Y s U H _ I h) λu s1 ⟨x,H1,I1,rx,a,i,dx,fs,f,ex,ea,l,hf,q⟩=>?_) ht;subst ex;obtain rfl:u=Value.ref a:=rx;obtain⟨c,hm,d,hd⟩:=g.tab.me i m f hf;obtain⟨fd,F,B⟩:=(g.fns f d hd).fact;have hr:bC k X.A:=(g.room hc).mono (Nat.le_succ _);obtain⟨ds,hb,hv⟩:∃ ds,Binds X.K fd d.ps ds/\Vals (dflt G f n) ds:=by
  unfold dflt;rw[hd];exact B _
 refine pF I1 ea c hm l ?_;cases es with
 |nil=>
  refine W.callWith_K0 (first:=[.ref a]) I1.bF hm.kp ?_;exact kO (us:=[.ref a]) (vs:=[.ref a]) F hr hb hv g.pass I1 (.cons rfl .nil) (hnil rfl _ _ _ q)
 |cons e r=>
  refine W.callWith_K (first:=[.ref a]) (h₀:=X.base) I.ok.mod.kin hm.kp (aG (ha pos Y s1 U H1 _ I1 q) λus s2 ⟨vs,H2,I2,r,q2⟩=>⟨I2.bF,?_⟩) (hst e r rfl) (hpl e r rfl);exact kO (us:=.ref a::us) (vs:=.ref a::vs) F hr hb hv g.pass I2 (.cons rfl r) q2
end
def zY {α β:Type}{f:α->Option β}:∀ {l:List α}{j:Nat}{y:β},(∀ a ∈ l,(f a).isSome=true)->(l.filterMap f)[j]? =some y->∃ a,l[j]? =some a/\f a=some y
 | [],_,_,_,h=>by simp at h
 |a::l,j,y,hs,h=>by
  obtain⟨b,hb⟩:=Option.isSome_iff_exists.mp (hs a lw);rw[filterMap_cons,hb]at h;cases j with
  |zero=>simp at h;exact⟨a,rfl,by rw[hb,h]⟩
  |succ j=>
   simp at h;obtain⟨a',h1,h2⟩:=zY (λa ha=>hs a (f8 _ ha)) h;exact⟨a',by simpa using h1,h2⟩
def vK {α β:Type}{f:α->Option β}:∀ {l:List α},(∀ a ∈ l,(f a).isSome=true)->(l.filterMap f).length=l.length
 | [],_=>rfl
 |a::l,hs=>by
  obtain⟨b,hb⟩:=Option.isSome_iff_exists.mp (hs a lw);rw[filterMap_cons,hb];simp[vK (λa ha=>hs a (f8 _ ha))]
abbrev jc (env:Env):Str×NameKind->List (Str×Addr)->Sem (ForInStep (List (Str×Addr))):=λnk r=>do
 let cs:=r
 if(nk.2 ==NameKind.free)=true then do
  let a <-cellOf env nk.1
  pure (ForInStep.yield ((nk.1,a)::cs))
 else pure (ForInStep.yield cs)
def lx {env:Env}:∀ (names:List (Str×NameKind)) (cs:List (Str×Addr)),(∀ y ∈ names,y.2=.free->∃ c,env.cells.lookup y.1=some c)->
  ∃ cl,(forIn names cs (jc env):Sem _)=pure cl/\(∀ y c,cl.lookup y=some c->cs.lookup y=some c\/env.cells.lookup y=some c)/\(∀ y,(cs.lookup y).isSome=true->(cl.lookup y).isSome=true)/\∀ y ∈ names,y.2=.free->(cl.lookup y.1).isSome=true
 | [],cs,_=>⟨cs,rfl,λy c h=>.inl h,λy h=>h,λy hy=>absurd hy (by simp)⟩
 |(n,kd)::r,cs,h=>by
  by_cases hk:kd=.free
  .subst hk;obtain⟨c,hc⟩:=h (n,.free) lw rfl;obtain⟨cl,h1,h2,h3,h4⟩:=lx r ((n,c)::cs) λy hy=>h y (f8 _ hy)
   have self:(((n,c)::cs).lookup n).isSome=true:=by simp[lookup_cons]
   refine⟨cl,?_,λy d q=>?_,λy q=>h3 y ?_,λy hy hf=>?_⟩
   .rw[forIn_cons];have e:jc env (n,.free) cs=pure (ForInStep.yield ((n,c)::cs)):=by
     unfold jc;simp only[cellOf,hc]
     rfl
    rw[e];exact h1
   .rcases h2 y d q with q|q
    .rw[lookup_cons]at q
     by_cases e:y=n
     .subst e;simp at q;subst q;exact .inr hc
     .rw[show(y ==n)=false from beq_eq_false_iff_ne.mpr e]at q;exact .inl q
    .exact .inr q
   .rw[lookup_cons];cases(y ==n)<;>simp[q]
   .rcases mo.mp hy with rfl|hy
    .exact h3 _ self
    .exact h4 y hy hf
  .obtain⟨cl,h1,h2,h3,h4⟩:=lx r cs λy hy=>h y (f8 _ hy)
   refine⟨cl,?_,h2,h3,λy hy hf=>?_⟩
   .rw[forIn_cons];have e:jc env (n,kd) cs=pure (ForInStep.yield cs):=by
     unfold jc;cases kd<;>first|rfl|exact absurd rfl hk
    rw[e];exact h1
   .rcases mo.mp hy with rfl|hy
    .exact absurd hf hk
    .exact h4 y hy hf
variable {scope:Scope}
def yf {env:Env}(h:∀ y ∈ scope.names,y.2=.free->∃ c,env.cells.lookup y.1=some c):
  ∃ cl,closureFor scope env=pure cl/\(∀ y c,cl.lookup y=some c->env.cells.lookup y=some c)/\∀ y ∈ scope.names,y.2=.free->(cl.lookup y.1).isSome=true:=by
 obtain⟨cl,h1,h2,_,h4⟩:=lx scope.names [] h;refine⟨cl,?_,λy c q=>(h2 y c q).resolve_left (by simp),h4⟩;have e:closureFor scope env=(forIn scope.names [] (jc env) >>= λcs=>pure cs):=by
  unfold closureFor jc
  rfl
 rw[e,h1]
 rfl
variable {xs:List Str}{sel:List Nat}
section
variable {X:Cx}{G:Gx}{S:Sn}{k:Nat}{E:St->XK}
def m8 (g:Gd X G S k E)(scope:Scope):relabel scope X.env=di S.sc scope:=by
 unfold relabel di Env.kindOf;rw[g.sc]
def bS (g:Gd X G S k E)(ok:X.Ok)(h:eW S scope xs sel=true):∃ cl,aZ X scope cl xs (sel.filterMap λi=>S.N[i]?) sel:=by
 unfold eW at h;simp only[nb,decide_eq_true_eq,all_eq_true,Bool.or_eq_true,bne_iff_ne,ne_eq]at h;obtain⟨⟨⟨⟨⟨h1,h2⟩,h3⟩,h4⟩,h5⟩,h6⟩:=h;have hs:∀ i ∈ sel,(S.N[i]?).isSome=true:=λi hi=>by
  have:=h5 i hi
  split at this
  .rename_i e;rw[e];rfl
  .cases this
 obtain⟨cl,c1,c2,c3⟩:=yf (env:=X.env) (scope:=scope) λy hy hf=>ok.has y.1 (.inl (by
  show X.env.scope.names.lookup y.1=_;rw[g.sc];exact((h3 y hy).2).resolve_left λz=>z hf))
 refine⟨cl,⟨c1,c2,λy hy=>?_,h1,λy hy=>(h3 y hy).1.1,λy hy hl=>((h3 y hy).1.2).resolve_left λz=>z hl,h4,(vK hs).symm,λj y hj=>?_,h6⟩⟩
 .have:∃ kd,(y,kd) ∈ scope.names/\kd=.free:=by
   rcases hy with hy|hy
   .obtain⟨kd,m,q⟩:=c6 hy;rcases q with q|q
    .subst q;exact absurd rfl (h3 _ m).1.1
    .exact⟨kd,m,q.1⟩
   .obtain⟨kd,m,q⟩:=c6 hy;rcases q with q|q
    .exact⟨kd,m,q.symm⟩
    .exact nomatch q.2
  obtain⟨kd,m,rfl⟩:=this;exact Option.isSome_iff_exists.mp (c3 _ m rfl)
 .obtain⟨i,hi,hn⟩:=zY hs hj;have q:=h5 i (dl hi);rw[hn]at q;simp only[nb,decide_eq_true_eq]at q;refine⟨i,hi,by rw[g.N];exact hn,by rw[g.sc];exact q.1,by rw[m8 g];exact q.2⟩
def Gd.comp (g:Gd X G S k E){cl:List (Str×Addr)}(C:aZ X scope cl xs (sel.filterMap λi=>S.N[i]?) sel) (E0:XK) (s:Shared) (H:Hp) (fp:List Addr):
  Gd (fe X scope cl (xs++sel.filterMap λi=>S.N[i]?) s H fp E0) G { S with sc:=di S.sc scope,N:=xs++sel.filterMap λi=>S.N[i]? } k (λ_=>E0) where
 hK:=g.hK
 hT:=g.hT
 sc:=m8 g scope
 N:=rfl
 nd:=C.nd
 pass:=jX zB
 cm:=g.cm
 xok:=λ_=>zB
 xst:=g.xst
 room:=g.room
 un:=g.un
 tab:=g.tab
 fns:=g.fns
def mC (env:Env):∀ {is:List Nat}{ts:List Expr},uP S is ts=true->(assignEach ts env).length=is.length/\(assignEach ts env).findIdx? (·.1)=none
 | [],[],_=>⟨rfl,rfl⟩
 | [],_::_,h=>by simp[uP]at h
 |_::_,[],h=>by simp[uP]at h
 |i::is,t::ts,h=>by
  cases t<;>simp[uP]at h
  rename_i x p;obtain⟨h1,h2⟩:=mC env h.2;have e:assignEach (.Name x p::ts) env=(false,assign (.Name x p) env)::assignEach ts env:=rfl;rw[e];refine⟨by simp[h1],?_⟩;rw[List.findIdx?_cons];simp[h2]
def qk (g:Gd X G S k E):∀ {is:List Nat}{ts:List Expr},uP S is ts=true->BP X ts (gl is)
 | [],[],_=>λY s U H vs us Q I r h=>lC Y s U H vs us Q I r ⟨length_eq_zero_iff.mp h.1,by
   have:=h.2;have e:vs=[]:=length_eq_zero_iff.mp h.1;subst e;exact this⟩
 | [],_::_,h=>by simp[uP]at h
 |_::_,[],h=>by simp[uP]at h
 |i::is,t::ts,h=>by
  cases t<;>simp[uP]at h
  rename_i x p;have hl:X.env.scope.names.lookup x=some .local:=by rw[g.sc];exact h.1.2
  have h1:PG X (.Name x p) (fO i):=fQ (by rw[g.N];exact g.nd) (by rw[g.N];exact h.1.1) (.inl hl) (.inr hl);have h2:=qk g h.2;intro Y s U H vs us Q I r q;refine fT h1 h2 rfl Y s U H vs us Q I r ?_;obtain⟨hl,q⟩:=q;cases vs with
  |nil=>simp at hl
  |cons v vs=>exact⟨v,vs,rfl,by simpa using hl,q⟩
def yp (g:Gd X G S k E)(hc:G.cm=true){n kt:Nat}{ts:List Expr}{pt:Pos}(h:uP S (List.range n) ts=true):PG X (.Tuple ts kt pt) (yT G.R.K n (gl (List.range n))):=by
 obtain⟨e1,e2⟩:=mC X.env h;rw[List.length_range]at e1;rw[g.hK];exact lH (g.cm hc) (qk g h) e1 e2
def xC {n:Nat}(h:xs.length=n):nr xs=sK n none:=by
 subst h;unfold nr;rw[List.map_const']
end
set_option maxHeartbeats 2000000
variable {r:List Expr}{p:Pos}{U:L2.St}{s1:Shared}{R:It->Hp->Prop}{keys:List (Option Expr)}
section
variable {G:Gx}{k:Nat}
def iM {o1 o2:CmpOp}{c:Expr}(h:cC c=true):lastMarks [o1,o2] [b,c]=false:=by
 show behindInMarks o2 c=false;exact dD h _
def v5 {t:TE}(h:PE X (match r with| []=>b|_=>.BoolOp .And (b::r) p) t):PE X (.BoolOp .And (b::r) p) t:=by
 cases r with
 |nil=>exact vg h
 |cons c r=>exact h
def uS {t:TE}(h:PE X (match r with| []=>b|_=>.BoolOp .Or (b::r) p) t):PE X (.BoolOp .Or (b::r) p) t:=by
 cases r with
 |nil=>exact vg h
 |cons c r=>exact h
def zM {op:BoolOp}(h:PT X (.BoolOp op l p) t):PW X (.BoolOp op l p) t:=λwhole Y s U H Q I q=>by
 have:=h Y s U H Q I q;exact this
def vW (h:PT X (match r with| []=>b|_=>.BoolOp .And (b::r) p) t):PW X (.BoolOp .And (b::r) p) t:=by
 cases r with
 |nil=>exact xx h
 |cons c r=>exact zM h
def uJ (h:PT X (match r with| []=>b|_=>.BoolOp .Or (b::r) p) t):PW X (.BoolOp .Or (b::r) p) t:=by
 cases r with
 |nil=>exact Be h
 |cons c r=>exact zM h
def yU:EX X (unaryOp .USub) (λx H Q=>match x with| .int i=>Q (.int (-i)) H|_=>False):=by
 intro Y s U H x v Q I r h
 split at h
 .exact(L2.Cw Y s U H _ v Q I r ⟨_,rfl,h⟩)
 .exact h.elim
def rY {CX:qd}{C f:Addr}{fd:FuncData}{ps:List Str}{sp:Sp}{dvs:List V}{ds:List Value}{E:St->XK}{pos:Pos}(M:E7 X.K C f)(F:cF X.prog X.w X.K X.mg X.base CX k f fd ps sp)(hr:bC (k+1) X.A)(hg:Gl X x)(hm:X.mg x=some (.ref C))(hb:Binds X.K fd ps ds)(hd:Vals dvs ds)(hx:Passes CX X E)
  (hdb:(x ==("__debug__":Str))=false):PE X (.Call (.Name x p) [] [] pos) (tO C sp dvs E wQ):=by
 intro Y s U H Q I h;refine ci (ba I hg hm ?_ hdb);exact W.callWith_K0 I.bF M.kp (ki (us:=[]) M F hr hb hd hx (Nat.zero_le _) I .nil h.2)
def cL.cP {f:Value->Value->Sem Value}{r:R2}(h:cL X f r):cL X f (λx y H R=>∃ Q,r x y H Q/\∀ z H1,Q z H1->R z H1):=λY s U H x y v u R I rx ry ⟨Q,q,i⟩=>
 aG (h Y s U H x y v u Q I rx ry q) λ_ _ ⟨v,H',J,r,z⟩=>⟨v,H',J,r,i _ _ z⟩
section
open PyProof.Rows
def rB {tg:Expr}{H1:Hp}{v:Value}{xs:List V}(I1:Inv X Y U H1 s1)(r:RelV (.ref a) v)(hq:aV X.K H1 a xs)(q:R (C2 X.K a) H1):
  wpAny (model X.prog X.w) X.A (pyIter v) (DE X Y U tg R) X.xe s1:=by
 cases r;obtain⟨its,rv,p,hz⟩:=I1.list hq;refine wpAny_pyIter_list p.isList ?_;refine⟨s1.heap.objs.size,[s1.heap.objs.size],_,_,H1,rfl,I1.kept (t':=s1.toks) λb o e=>u8 _ e,su a _,⟨_,ut _ rfl,rfl,rfl⟩,λb hb=>?_,q⟩;have e:b=s1.heap.objs.size:=by simpa using hb
 subst e;exact I1.u7 (s0 _) (I1.hok.fresh (s0 _))
def tR {tg:Expr}{H1:Hp}{v:Value}{xs:List V}(I1:Inv X Y U H1 s1)(r:RelV (.ref a) v)(hq:cM X.K H1 a xs)(q:R (CY X.K a) H1):
  wpAny (model X.prog X.w) X.A (pyIter v) (DE X Y U tg R) X.xe s1:=by
 cases r;obtain⟨its,rv,p,hz⟩:=I1.tuple hq;refine wpAny_pyIter_tuple (show s1.heap.IsTuple a its.toArray from p) ?_;refine⟨s1.heap.objs.size,[s1.heap.objs.size],_,_,H1,rfl,I1.kept (t':=s1.toks) λb o e=>u8 _ e,o6 a _,⟨_,ut _ rfl,rfl,rfl⟩,λb hb=>?_,q⟩;have e:b=s1.heap.objs.size:=by simpa using hb
 subst e;exact I1.u7 (s0 _) (I1.hok.fresh (s0 _))
end
def CL {x:V}{Q:Bool->Hp->Prop}(h:AS K x H Q):∃ k,yo K x H k/\Q k H:=by
 unfold AS at h
 split at h
 .exact⟨_,rfl,h⟩
 .exact h
abbrev GI:List Str->List V->List (V×V)
 |k::ks,x::xs=>(.str k,x)::GI ks xs
 |_,_=>[]
def rV {k:Str}{ks:List Str}(h:rM (k::ks) keys=true):∃ j p r,keys=some (.Constant (.str k) j p)::r/\rM ks r=true:=by
 unfold rM at h
 split at h
 .rename_i e;cases e
 .rename_i k' ks' x j p r e
  injection e with e1 e2
  subst e1 e2;simp only[nb,decide_eq_true_eq]at h;obtain⟨rfl,h⟩:=h;exact⟨_,_,_,rfl,h⟩
 .cases h
def uK (h:rM [] keys=true):keys=[]:=by
 cases keys with
 |nil=>rfl
 |cons a r=>cases(show false=true from h)
mutual
theorem sE:∀ (x:Ex){X:Cx}{S:Sn}{E:St->XK},Gd X G S k E->∀ {e:Expr},mE S x e=true->PE X e (λU H Q=>wE G x U H Q (E U))
 | .v i,X,S,E,g,e,h=>by
  sleep 1
  simp only[nb,decide_eq_true_eq]at h;obtain⟨h1,h2⟩:=h;obtain⟨v1,v2,v3⟩:=g.ED h2;refine PE.imp (Az (i:=i) (by rw[g.N];exact h1) v1 v2 v3) λU H Q q=>?_
  conv at q=>whnf
  split at q
  .rename_i e;exact⟨_,e,q⟩
  .exact q.elim
 | .int i,X,S,E,g,e,h=>by
  sleep 2
  simp only[decide_eq_true_eq]at h;subst h;exact Bw
 | .bl i,X,S,E,g,e,h=>by
  sleep 2
  simp only[decide_eq_true_eq]at h;subst h;exact DW
 | .non,X,S,E,g,e,h=>by
  sleep 2
  exact Cb
 | .str i,X,S,E,g,e,h=>by
  sleep 2
  simp only[decide_eq_true_eq]at h;subst h;exact tT
 | .gl x,X,S,E,g,e,h=>by
  sleep 1
  simp only[nb,decide_eq_true_eq]at h;obtain⟨rfl,h2⟩:=h;obtain⟨hg,hd⟩:=g.glob h2;intro Y s U H Q I q
  conv at q=>whnf
  split at q
  .rename_i v e;obtain⟨u,hm,r⟩:=g.tab.gl _ v e;exact qh hg hm r hd Y s U H Q I q
  .exact q.elim
 | .bin op a b,X,S,E,g,e,h=>by
  sleep 1
  simp only[nb,decide_eq_true_eq]at h;obtain⟨⟨rfl,ha⟩,hb⟩:=h;exact C9 (g.bin op) (sE a g ha) (sE b g hb)
 | .neg a,X,S,E,g,e,h=>by
  sleep 2
  exact EH yU (sE a g h)
 | .not a,X,S,E,g,e,h=>by
  sleep 2
  refine PE.imp (By (PE.cP (sE a g h))) λU H Q q=>⟨_,q,λx H1 z=>?_⟩
  split at z
  .exact⟨_,rfl,z⟩
  .exact z.elim
 | .and a b,X,S,E,g,e,h=>by
  sleep 3
  simp only[nb]at h;refine PE.imp (A8 (PE.cP (sE a g h.1)) (v5 (sE b g h.2))) λU H Q q=>⟨_,q,λx H1 z=>?_⟩
  split at z
  .rw[cQ]at z;exact⟨_,rfl,z⟩
  .exact z.elim
 | .or a b,X,S,E,g,e,h=>by
  sleep 3
  simp only[nb]at h;refine PE.imp (Du (PE.cP (sE a g h.1)) (uS (sE b g h.2))) λU H Q q=>⟨_,q,λx H1 z=>?_⟩
  split at z
  .rw[cQ]at z;exact⟨_,rfl,z⟩
  .exact z.elim
 | .cmp op a b,X,S,E,g,e,h=>by
  sleep 3
  simp only[nb,decide_eq_true_eq]at h;obtain⟨⟨⟨rfl,ha⟩,hb⟩,hn⟩:=h;exact yY (g.cmp op) (sE a g ha) (sE b g hb) (dD hn _)
 | .cmp2 o1 o2 a b c,X,S,E,g,e,h=>by
  sleep 3
  simp only[nb,decide_eq_true_eq]at h;obtain⟨⟨⟨⟨⟨rfl,rfl⟩,ha⟩,hb⟩,hc⟩,hn⟩:=h;refine PE.imp (wz (cL.cP (g.cmp o1)) (g.cmp o2) (PE.cP (sE a g ha)) (PE.cP (sE b g hb)) (sE c g hc) (iM hn)) λU H Q q=>⟨_,q,λx H1 q1=>⟨_,q1,λy H2 q2=>⟨_,q2,λz H3 q3=>?_⟩⟩⟩
  split at q3
  .rw[cQ]at q3;exact⟨_,rfl,q3⟩
  .exact q3.elim
 | .cmp3 o1 o2 o3 a b c d,X,S,E,g,e,h=>by cases(show false=true from h)
 | .ife c a b,X,S,E,g,e,h=>by
  sleep 1
  simp only[nb]at h;exact PE.imp (vR (PT.cP (sT c g h.1.1)) (sE a g h.1.2) (sE b g h.2)) λU H Q q=>⟨_,q,λk H1 z=>by rwa [cQ]at z⟩
 | .tup es,X,S,E,g,e,h=>by
  sleep 1
  refine PE.imp (B8 (PA.cP (tD es g h))) λU H Q q=>⟨_,q,λx H1 z=>by unfold oz at z;exact⟨hW (by have:=z.1;omega),z.2⟩⟩
 | .lst es,X,S,E,g,e,h=>by
  sleep 1
  refine PE.imp (Bp (PA.cP (tD es g h))) λU H Q q=>⟨_,q,λx H1 z=>by unfold yG at z;exact⟨hW (by have:=z.1;omega),z.2⟩⟩
 | .ix a i,X,S,E,g,e,h=>by
  sleep 1
  simp only[nb]at h;have hr:CW X (wF G.R.K):=g.hK▸og g.un;exact DL hr (sE a g h.1.1) (sE i g h.1.2) (nQ h.2)
 | .sl a lo hi,X,S,E,g,e,h=>by
  sleep 3
  simp only[nb]at h;have hr:C0 X (tJ G.R.K):=g.hK▸Cd;exact tN hr (sE a g h.1.1) (sO lo g h.1.2) (sO hi g h.2)
 | .fld a f,X,S,E,g,e,h=>by
  sleep 1
  simp only[nb,decide_eq_true_eq]at h;obtain⟨⟨ha,rfl⟩,hn⟩:=h;intro Y s U H Q I q;have q':wE G a U H (λx H1=>mh G f x H1 Q) (E U):=q;refine xi (bI hn _ _ _) (aG (sE a g ha Y s U H _ I q') λu s1 ⟨x,H1,I1,rx,qf⟩=>?_);unfold mh at qf;obtain⟨a,i,fs,v,ex,ea,hna,l,q⟩:=qf;subst ex;obtain rfl:u=Value.ref a:=rx;have n:=g.tab.na i f hna;rcases ea with⟨ho,dx,ea⟩|⟨ho,dx,fr,ea⟩
  .exact jd I1 ea (g.tab.oc i ho).1 n l λu' s' J rv=>⟨v,H1,J,rv,q⟩
  .exact j5 I1 ea (g.tab.xc i ho).1 n l λu' s' J rv=>⟨v,H1,J,rv,q⟩
 | .call f es,X,S,E,g,e,h=>by
  sleep 3
  rename_i es' pos _ xn p1 _;simp only[nb,decide_eq_true_eq]at h;obtain⟨⟨h1,h2⟩,h3⟩:=h;obtain⟨hg,hdb⟩:=g.glob h1;obtain⟨hm,hk,d,hd⟩:=g.tab.gfn _ _ (g.hT▸h2);obtain⟨fd,F,B⟩:=(g.fns f d hd).fact;obtain⟨ds,hb,hv⟩:∃ ds,Binds X.K fd d.ps ds/\Vals (dflt G f es.len) ds:=by
   unfold dflt;rw[hd];exact B _
  intro Y s U H Q I q;obtain⟨hc,q⟩:=(show G.cm=true/\wEs G es U H (λvs H1=>G.Ψ f (vs++dflt G f es.len) H1 Q (E U)) (E U) from q);have hr:bC k X.A:=(g.room hc).mono (Nat.le_succ _);cases es' with
  |nil=>
   cases es with
   |nil=>exact tM F hr hg hm hk hb hv g.pass hdb Y s U H Q I q
   |cons _ _=>cases(show false=true from h3)
  |cons e0 er=>
   have PAs:=tD es g h3;obtain⟨ns,x0,xr,rfl,h4⟩:=bg h3;exact xH F hr hg hm hk hb hv g.pass PAs hdb (ag ns) (aP h4 _ _) Y s U H Q I q
 | .meth a m es,X,S,E,g,e,h=>by
  sleep 3
  rename_i es' pos _ a' m' apos _;simp only[nb,decide_eq_true_eq]at h;obtain⟨⟨⟨⟨⟨ha,rfl⟩,h3⟩,h4⟩,h5⟩,h6⟩:=h;intro Y s U H Q I q;obtain⟨hc,q⟩:=(show G.cm=true/\_ from q);refine uk (n:=es.len+1) g hc (sE a g ha) (tD es g h3) (λz U H R hr=>?_) (λe r z=>?_) (λe r z=>?_) (jR h4 (pU h3 h6 _ _) h5) Y s U H Q I q
  .subst z;cases es with
   |nil=>exact hr
   |cons _ _=>cases(show false=true from h3)
  .subst z;exact ag (bg h3).1
  .subst z;have PAs:=tD es g h3;obtain⟨ns,x0,xr,rfl,h4⟩:=bg h3;exact aP h4 _ _
 | .lm m a es,X,S,E,g,e,h=>by
  sleep 3
  rename_i es' pos _ a' m' apos _;simp only[nb,decide_eq_true_eq]at h;obtain⟨⟨⟨⟨⟨ha,rfl⟩,h3⟩,h4⟩,h5⟩,h6⟩:=h;cases es' with
  |nil=>
   cases es with
   |nil=>exact PE.imp (BZ PySem.F.plainAttrs_list (pS m) (Am m) (Al m) (PE.cP (sE a g ha)) (bI h4 _ _ _) h5) λU H Q q=>⟨_,q,λx H1 z=>by
     obtain⟨p,xs0,ex,hp,q⟩:=z;subst ex;obtain⟨xs,h1,h2⟩:=q;exact⟨.inl ⟨rfl,xs0,aV.of hp⟩,p,xs,rfl,h1,h2⟩⟩
   |cons _ _=>cases(show false=true from h3)
  |cons e0 er=>
   have PAs:=tD es g h3;obtain⟨ns,x0,xr,rfl,h7⟩:=bg h3;exact PE.imp (zT PySem.F.plainAttrs_list (pS m) (Am m) (Al m) (PE.cP (sE a g ha)) (PA.cP PAs) (bI h4 _ _ _) (uA h3 h6 _ _) h5 (ag ns) (aP h7 _ _)) λU H Q q=>⟨_,q,λx H1 z=>by
     obtain⟨p,xs0,ex,hp,q⟩:=z;subst ex;exact⟨.inl ⟨rfl,xs0,aV.of hp⟩,_,q,λvs H2 ⟨xs,h1,h2⟩=>⟨p,xs,rfl,h1,h2⟩⟩⟩
 | .dget a k d,X,S,E,g,e,h=>by cases(show false=true from h)
 | .rev a b,X,S,E,g,e,h=>by cases(show false=true from h)
 | .dupd a b,X,S,E,g,e,h=>by cases(show false=true from h)
 | .lix a b,X,S,E,g,e,h=>by cases(show false=true from h)
 | .make c es,X,S,E,g,e,h=>by
  sleep 3
  rename_i es' pos _ xn p1 _;simp only[nb,decide_eq_true_eq]at h;obtain⟨⟨h1,h2⟩,h3⟩:=h;obtain⟨hg,hdb⟩:=g.glob h1;have hm:=g.tab.gcl _ _ (g.hT▸h2);intro Y s U H Q I q
  conv at q=>whnf
  obtain⟨hc,q⟩:=q
  split at q
  .obtain⟨h0,q⟩:=q;cases es' with
   |nil=>
    cases es with
    |nil=>exact absurd q.1 (by decide)
    |cons _ _=>cases(show false=true from h3)
   |cons e0 er=>
    have PAs:=tD es g h3;obtain⟨ns,x0,xr,rfl,h4⟩:=bg h3;exact uZ (g.tab.ini0 c h0) hg hm PAs hdb (ag ns) (aP h4 _ _) Y s U H Q I q
  .rename_i f hf;obtain⟨⟨d,hd⟩,hmk⟩:=g.tab.ini c f hf;obtain⟨fd,F,B⟩:=(g.fns f d hd).fact;obtain⟨ds,hb,hv⟩:∃ ds,Binds X.K fd d.ps ds/\Vals (dflt G f (es.len+1)) ds:=by
    unfold dflt;rw[hd];exact B _
   have hr:=g.room hc
   split at q
   .rename_i hx;rw[if_pos hx]at hmk;cases es' with
    |nil=>
     cases es with
     |nil=>exact rY hmk F hr hg hm hb hv g.pass hdb Y s U H Q I q
     |cons _ _=>cases(show false=true from h3)
    |cons e0 er=>
     have PAs:=tD es g h3;obtain⟨ns,x0,xr,rfl,h4⟩:=bg h3;exact vx hmk F hr hg hm hb hv g.pass PAs hdb (ag ns) (aP h4 _ _) Y s U H Q I q
   .rename_i hx;rw[if_neg hx]at hmk;cases es' with
    |nil=>
     cases es with
     |nil=>exact uM hmk F hr hg hm hb hv g.pass hdb Y s U H Q I q
     |cons _ _=>cases(show false=true from h3)
    |cons e0 er=>
     have PAs:=tD es g h3;obtain⟨ns,x0,xr,rfl,h4⟩:=bg h3;exact yV hmk F hr hg hm hb hv g.pass PAs hdb (ag ns) (aP h4 _ _) Y s U H Q I q
 | .bini es,X,S,E,g,e,h=>by
  sleep 4
  rename_i es' pos _ mm p2 _ xn p1 _;simp only[nb,decide_eq_true_eq]at h;obtain⟨⟨⟨⟨⟨h1,rfl⟩,h2⟩,h3⟩,h4⟩,h5⟩:=h;obtain⟨hg,hdb⟩:=g.glob h1;obtain⟨B,hm,hB⟩:=g.tab.gbi _ (g.hT▸h2);cases es' with
  |nil=>
   cases es with
   |nil=>cases h4
   |cons _ _=>cases(show false=true from h3)
  |cons e0 er=>
   have PAs:=tD es g h3;obtain⟨ns,x0,xr,rfl,h7⟩:=bg h3;refine PE.imp (Ck hB hg hm (PA.cP PAs) hdb (ag ns) (aP h7 _ _) (jR (o:=.Name _ _) rfl (pU h3 (by rw[h4];decide) _ _) h5)) λU H Q q=>⟨_,q,λvs H1 z=>?_⟩
   obtain⟨a,i,dx,fs,fr,v,ev,ea,hi,q⟩:=z;exact⟨a,_,dx,fs,fr,v,ev,ea,(g.tab.xc i hi).1,q⟩
 | .cini c es,X,S,E,g,e,h=>by cases(show false=true from h)
 | .bf b es,X,S,E,g,e,h=>by
  sleep 3
  rename_i es' pos _ xn p1 _;simp only[nb,decide_eq_true_eq]at h;obtain⟨⟨⟨⟨h1,rfl⟩,h2⟩,h3⟩,h4⟩:=h;obtain⟨hg,hdb⟩:=g.glob h1;obtain⟨hm,hn⟩:=g.tab.gbl _ (g.hT▸h2);cases es' with
  |nil=>
   cases es with
   |nil=>exact absurd h4 (by decide)
   |cons _ _=>cases(show false=true from h3)
  |cons e0 er=>
   have PAs:=tD es g h3;obtain⟨ns,x0,xr,rfl,h7⟩:=bg h3;have hb:=xh b;have hk:=Dp g b;have key:∀ {v:Value},uc b=v->(∃ i,v=.builtin i)\/(∃ i,v=.type i):=by
    intro v hv;subst hv;cases b<;>first|exact .inl ⟨_,rfl⟩|exact .inr ⟨_,rfl⟩
   rcases key rfl with⟨i,hi⟩|⟨i,hi⟩
   .rw[hi]at hb hk;exact nq hk hg hm hb PAs hn hdb (ag ns) (aP h7 _ _)
   .rw[hi]at hb hk;exact tm hk hg hm hb PAs hn hdb (ag ns) (aP h7 _ _)
 | .isi a c,X,S,E,g,e,h=>by
  sleep 4
  rename_i pos _ xn p1 _ _ a' c';simp only[nb,decide_eq_true_eq]at h;obtain⟨⟨⟨⟨h1,rfl⟩,h2⟩,h3⟩,h4⟩:=h;obtain⟨hg,hdb⟩:=g.glob h1;obtain⟨hm,hn⟩:=g.tab.gbl _ (g.hT▸h2);have n1:notStar a'=true:=by
   cases a'<;>first|rfl|(cases a<;>cases(show false=true from h3))
  have n2:notStar c'=true:=by
   cases c'<;>first|rfl|(cases c<;>simp[zq]at h4)
  refine PE.imp (nq (Cs g c) hg hm CJ (rZ (PE.cP (sE a g h3)) (rZ (El g h4) jw n2) n1) hn hdb (ag n1) ?_) λU H Q q=>⟨_,q,λx H1 z=>⟨x,rfl,z⟩⟩
  rw[ag n2]
  rfl
 | .lc elt sel it,X,S,E,g,e,h=>by
  sleep 2
  split at h
  iterate 3 (split at h;rotate_left;cases h)
  simp only[nb]at h;obtain⟨⟨⟨h1,h2⟩,h3⟩,h4⟩:=h;intro Y s U H Q I q;obtain⟨hc,q⟩:=(show G.cm=true/\wI G it U H (λJ H1=>tL (λσ' H' Q'=>wE G elt σ' H' Q' (E U)) J (none::fS U sel) H1 Q) (E U) from q);rw[wb]at q;obtain⟨cl,C⟩:=bS g I.ok h1;exact uW (g.cm hc) (g.cx hc U) C (sI it g h2) (λs H fp=>sE elt (g.comp C (E U) s H fp) h3) (bA h4 _) Y s H Q I q
 | .lci elt c sel it,X,S,E,g,e,h=>by
  sleep 2
  split at h
  iterate 3 (split at h;rotate_left;cases h)
  simp only[nb]at h;obtain⟨⟨⟨⟨h1,h2⟩,h3⟩,h5⟩,h4⟩:=h;intro Y s U H Q I q;obtain⟨hc,q⟩:=(show G.cm=true/\wI G it U H (λJ H1=>zJ (λσ' H' Q'=>wT G c σ' H' Q' (E U)) (λσ' H' Q'=>wE G elt σ' H' Q' (E U)) J (none::fS U sel) H1 Q) (E U) from q);rw[vN]at q;obtain⟨cl,C⟩:=bS g I.ok h1;exact jT (g.cm hc) (g.cx hc U) C (sI it g h2) (λs H fp=>lj C) (λs H fp=>qo (sT c (g.comp C (E U) s H fp) h5)) (λs H fp=>sE elt (g.comp C (E U) s H fp) h3) (bA h4 _) Y s H Q I q
 | .lct elt n sel it,X,S,E,g,e,h=>by cases(show false=true from h)
 | .lcu elt c n sel it,X,S,E,g,e,h=>by cases(show false=true from h)
 | .dnew,X,S,E,g,e,h=>by cases(show false=true from h)
 | .sm m a b,X,S,E,g,e,h=>by
  sleep 4
  simp only[nb,decide_eq_true_eq]at h;obtain⟨⟨⟨⟨⟨ha,rfl⟩,hb⟩,hn⟩,h4⟩,h5⟩:=h;exact PE.imp (zT PySem.F.plainAttrs_str (zv m) (DR m) (Eb m) (PE.cP (sE a g ha)) (rZ (PE.cP (sE b g hb)) jw hn) (bI h4 _ _ _) (xK hb hn _ _) h5 (ag hn) rfl) λU H Q q=>⟨_,q,λx H1 z=>by
   obtain⟨z,rfl,q⟩:=z;exact⟨rfl,_,q,λy H2 q=>⟨z,y,rfl,rfl,g.hK▸q⟩⟩⟩
 | .up a,X,S,E,g,e,h=>by cases(show false=true from h)
 | .isiT a cs,X,S,E,g,e,h=>by cases(show false=true from h)
 | .mk0 c,X,S,E,g,e,h=>by
  sleep 4
  simp only[nb,decide_eq_true_eq]at h;obtain⟨⟨h1,h2⟩,h3⟩:=h;obtain⟨hg,hdb⟩:=g.glob h1;refine PE.imp (vS (g.tab.inip c (g.hT▸h3)) hg (g.tab.gcl _ _ (g.hT▸h2)) hdb) λU H Q q=>?_
  have q':sD (G.R.cad c) H Q:=q;unfold sD at q';exact q'
 | .vals tp a,X,S,E,g,e,h=>by cases(show false=true from h)
 | .disp ks es,X,S,E,g,e,h=>by cases(show false=true from h)
 | .dzip a b,X,S,E,g,e,h=>by cases(show false=true from h)
termination_by structural x=>x
theorem sI:∀ (x:zO){X:Cx}{S:Sn}{E:St->XK},Gd X G S k E->∀ {t e:Expr},mI S x t e=true->PI X t e (λU H R=>wI G x U H R (E U))
 | .rng1 a,X,S,E,g,t,e,h=>by
  sleep 4
  simp only[nb,decide_eq_true_eq]at h;obtain⟨⟨⟨⟨h1,rfl⟩,h2⟩,h3⟩,n1⟩:=h;obtain⟨hg,hdb⟩:=g.glob h1;obtain⟨hm,hn⟩:=g.tab.gbl _ (g.hT▸h2);intro Y s U H R I q;refine sU hg hm (rZ (PE.cP (sE a g h3)) jw n1) (ag n1) Y s U H R I ⟨_,q,λx H1 z=>?_⟩
  split at z
  .exact⟨_,rfl,z.1,z.2.1,z.2.2⟩
  .exact z.elim
 | .rng2 a b,X,S,E,g,t,e,h=>by cases(show false=true from h)
 | .rng3 a b c,X,S,E,g,t,e,h=>by cases(show false=true from h)
 | .enm a,X,S,E,g,t,e,h=>by
  sleep 4
  simp only[nb,decide_eq_true_eq]at h;obtain⟨⟨⟨⟨⟨h1,rfl⟩,h2⟩,h3⟩,n1⟩,h5⟩:=h;obtain⟨hg,hdb⟩:=g.glob h1;obtain⟨hm,hn⟩:=g.tab.gbl _ (g.hT▸h2)
  split at h5
  .intro Y s U H R I q;refine yg hg hm (rZ (PE.cP (sE a g h3)) jw n1) (ag n1) Y s U H R I ⟨_,q,λx H1 z=>?_⟩
   split at z
   .unfold wR at z;exact⟨_,rfl,z.1,z.2⟩
   .exact z.elim
  .cases h5
 | .enf a,X,S,E,g,t,e,h=>by cases(show false=true from h)
 | .seq a,X,S,E,g,t,e,h=>by
  conv at h=>lhs;whnf
  intro Y s U H R I q;have q':wE G a U H (λx H1=>match x with| .ref p=>oB G.R.K p H1 R| .str z=>R (AY z) H1|_=>False) (E U):=q;rw[g.hK]at q';refine aG (sE a g h Y s U H _ I q') λv s1 ⟨x,H1,I1,r1,z⟩=>?_
  dsimp only at z
  split at z
  .unfold oB at z;rcases z with⟨⟨xs,hx⟩,z⟩|⟨⟨xs,hx⟩,z⟩|z
   .exact rB I1 r1 hx z
   .exact tR I1 r1 hx z
   .exact z.elim
  .exact uz I1 r1 z
  .exact z.elim
 | .zip a b,X,S,E,g,t,e,h=>by cases(show false=true from h)
 | .zip3 a b c,X,S,E,g,t,e,h=>by cases(show false=true from h)
termination_by structural x=>x
theorem sO:∀ (x:EO){X:Cx}{S:Sn}{E:St->XK},Gd X G S k E->∀ {e:Option Expr},mO S x e=true->PO X e (λU H Q=>wO G x U H Q (E U))
 | .no,X,S,E,g,none,h=>yJ
 | .no,X,S,E,g,some _,h=>by cases(show false=true from h)
 | .yes x,X,S,E,g,none,h=>by cases(show false=true from h)
 | .yes x,X,S,E,g,some e,h=>by
  conv at h=>lhs;whnf
  intro Y s U H Q I q;refine wY (PE.cP (sE x g h)) Y s U H Q I ⟨_,q,λy H1 z=>?_⟩
  split at z
  .exact⟨_,rfl,z⟩
  .exact z.elim
termination_by structural x=>x
theorem sT:∀ (x:Tx){X:Cx}{S:Sn}{E:St->XK},Gd X G S k E->∀ {e:Expr},mT S x e=true->PT X e (λU H Q=>wT G x U H Q (E U))
 | .not a,X,S,E,g,e,h=>by
  sleep 2
  exact A4 (sT a g h)
 | .and a b,X,S,E,g,e,h=>by
  sleep 3
  simp only[nb]at h;exact PT.imp (AL (PT.cP (sT a g h.1)) (vW (sT b g h.2))).pt λU H Q q=>⟨_,q,λk H1 z=>by rwa [cQ]at z⟩
 | .or a b,X,S,E,g,e,h=>by
  sleep 3
  simp only[nb]at h;exact PT.imp (Ds (PT.cP (sT a g h.1)) (uJ (sT b g h.2))).pt λU H Q q=>⟨_,q,λk H1 z=>by rwa [cQ]at z⟩
 | .cmp op a b,X,S,E,g,e,h=>by
  sleep 3
  simp only[nb,decide_eq_true_eq]at h;obtain⟨⟨⟨rfl,ha⟩,hb⟩,hn⟩:=h;refine PT.imp (zt (cL.cP (g.cmp op)) (PE.cP (sE a g ha)) (PE.cP (sE b g hb)) (dD hn _)) λU H Q q=>⟨_,q,λx H1 q1=>⟨_,q1,λy H2 q2=>⟨_,q2,λz H3 q3=>?_⟩⟩⟩
  split at q3
  .exact⟨_,rfl,q3⟩
  .exact q3.elim
 | .cmp2 o1 o2 a b c,X,S,E,g,e,h=>by
  sleep 3
  simp only[nb,decide_eq_true_eq]at h;obtain⟨⟨⟨⟨⟨rfl,rfl⟩,ha⟩,hb⟩,hc⟩,hn⟩:=h;refine PT.imp (uQ (cL.cP (g.cmp o1)) (cL.cP (g.cmp o2)) (PE.cP (sE a g ha)) (PE.cP (sE b g hb)) (PE.cP (sE c g hc)) (iM hn)) λU H Q q=>⟨_,q,λx H1 q1=>⟨_,q1,λy H2 q2=>⟨_,q2,λz H3 q3=>?_⟩⟩⟩
  split at q3
  .refine⟨_,rfl,?_⟩;rw[cQ]at q3
   split at q3
   .rename_i hk;rw[if_pos hk];refine⟨_,q3,λw H4 q4=>⟨_,q4,λz H5 q5=>?_⟩⟩
    split at q5
    .exact⟨_,rfl,q5⟩
    .exact q5.elim
   .rename_i hk;rw[if_neg hk];exact⟨_,rfl,q3⟩
  .exact q3.elim
 | .val x,X,S,E,g,e,h=>by
  have h:(mE S x e&&plainT e)=true:=h;simp only[nb]at h;refine PT.imp (vz (PE.cP (sE x g h.1)) (plainT_ok h.2 _)) λU H Q q=>⟨_,q,λy H1 z=>?_⟩
  exact g.hK▸CL z
termination_by structural x=>x
theorem GZ:∀ (x:fj){X:Cx}{S:Sn}{E:St->XK},Gd X G S k E->∀ {ks:List Str}{keys:List (Option Expr)}{e:List Expr}{pos:Pos},rM ks keys=true->jz S x e=true->x.len=ks.length->PQ X pos keys e (λU H R=>∃ Q,wEs G x U H Q (E U)/\∀ xs H1,xs.length=x.len->Q xs H1->R (GI ks xs) H1)
 | .nil,X,S,E,g,ks,keys,[],pos,h1,h,hl=>by
  obtain rfl:ks=[]:=List.eq_nil_of_length_eq_zero hl.symm;rw[uK h1];exact λY s U H R I ⟨Q,q,i⟩=>AX Y s U H R I (i [] H rfl q)
 | .nil,X,S,E,g,_,_,_::_,pos,h1,h,hl=>by cases(show false=true from h)
 | .cons x xs,X,S,E,g,_,_,[],pos,h1,h,hl=>by cases(show false=true from h)
 | .cons x xs,X,S,E,g,[],keys,e::es,pos,h1,h,hl=>by cases hl
 | .cons x xs,X,S,E,g,c::ks,keys,e::es,pos,h1,h,hl=>by
  have h:(mE S x e&&notStar e&&jz S xs es)=true:=h;simp only[nb]at h;obtain⟨j,p,r,rfl,h2⟩:=rV h1;intro Y s U H R I ⟨Q,q,i⟩;refine yO tT (PE.cP (sE x g h.1.1)) (GZ xs g h2 h.2 (Nat.succ.inj hl)) Y s U H R I ?_;exact⟨_,q,λy H2 z=>⟨_,z,λys H3 hy w=>i (y::ys) H3 (congrArg Nat.succ hy) w⟩⟩
termination_by structural x=>x
theorem tD:∀ (x:fj){X:Cx}{S:Sn}{E:St->XK},Gd X G S k E->∀ {e:List Expr},jz S x e=true->PA X e (λU H Q=>wEs G x U H Q (E U))
 | .nil,X,S,E,g,[],h=>jw
 | .nil,X,S,E,g,_::_,h=>by cases(show false=true from h)
 | .cons x xs,X,S,E,g,[],h=>by cases(show false=true from h)
 | .cons x xs,X,S,E,g,e::es,h=>by
  have h:(mE S x e&&notStar e&&jz S xs es)=true:=h;simp only[nb]at h;exact rZ (sE x g h.1.1) (tD xs g h.2) h.1.2
termination_by structural x=>x
end
end
end L3
namespace L2
open PySem PySem.Spec PyProof.Rows
variable {scope:Scope}{cl:List (Str×Addr)}{fr:List Str}{sel:List Nat}{U:St}{s:Shared}
section
variable {X:Cx}
abbrev GA (X:Cx)(U:St)(st:Stmt)(t:TS):Prop:=∀ (Y:HD) (s:Shared) (H:Hp) (D:Ends),Inv X Y U H s->t D U H->wpAny (model X.prog X.w) X.A (exec st X.env) (SP X Y D) X.xe s
def eU {elt iter tgt:Expr}{ifs:List Expr}{xs:List Str}{y:Str}{py pos spos:Pos}{wi:TI}{tg:TG}{tc:TT}{te:TE}{ni:Nat}{E:XK}(hc:X.calm=true)(hx:ke X U E)(S:aZ X scope cl xs fr sel)(hi:PI X tgt iter wi)
  (hg:∀ (s:Shared) (H:Hp) (fp:List Addr),PG (fe X scope cl (xs++fr) s H fp E) tgt tg) (ht:∀ (s:Shared) (H:Hp) (fp:List Addr),ET (fe X scope cl (xs++fr) s H fp E) ifs tc)
  (he:∀ (s:Shared) (H:Hp) (fp:List Addr),PE (fe X scope cl (xs++fr) s H fp E) elt te) (hs:∀ x,foldedSetIterable iter X.env x=pure x) (hN:X.N.Nodup) (hni:X.N[ni]? =some y) (hy:X.env.scope.names.lookup y=some .local)
  (hsw:swapsWith (.ListComp elt [⟨tgt,iter,ifs,0⟩] scope pos) (some (.Name y py)) spos.line X.env=pure true):GA X U (.Assign [.Name y py] (.ListComp elt [⟨tgt,iter,ifs,0⟩] scope pos) spos) (λD U H=>De wi tg tc te xs sel U H λv H1=>D.nx (U.set ni (some v)) H1):=by
 intro Y s H DD I h;rw[exec_Assign_Name_used _ _ _ _ hsw];refine ap (wpAny_standAt (ap ?_));show wpAny _ _ (do let _ <-comprehension (.ListComp elt [⟨tgt,iter,ifs,0⟩] scope pos) scope X.env _ (newList []) false (eval iter X.env) (some (assign (.Name y py) X.env))) _ _ s;refine ap (wpAny_mono (wpAny_comprehension_free (use:=some (assign (.Name y py) X.env)) (Q:=λ_ s'=>SP X Y DD .next s') rfl hs S.clos S.kind S.names ?_) (λ_ s' hq=>bd (bd hq)) λ_ _ e=>e);refine aG (hi Y s U H _ I h) λv s1 h1=>aG h1 λitv s2 h2=>?_
 obtain⟨it,fp,tn,J,H2,e,I2,T,oy,f2,h2⟩:=h2;subst e;refine wpAny_newObj_type ?_;have hD:H2 s2.heap.objs.size=none:=I2.hok.fresh (s0 _);have I3:Inv X Y U (upd H2 s2.heap.objs.size (.lst [])) { s2 with heap:=s2.heap.push { cls:=.type "list",dict:=none,data:=.seq ([]:List Value).toArray } }:=
  I2.laid (t':=s2.toks) (λb u e=>u8 _ e) (s0 _) ⟨Nat.zero_le _,[],0,.nil,ut _ rfl⟩
 have fo2:∀ b ∈ fp,b<s2.heap.objs.size:=λb hb=>by
  obtain⟨o,ho,_⟩:=T.obj _ _ oy b hb;exact ul ho
 have f3:∀ b ∈ fp,gG X Y (upd H2 s2.heap.objs.size (.lst [])) b:=λb hb=>⟨by rw[af (re (fo2 b hb))];exact(f2 b hb).1,(f2 b hb).2⟩
 have st3:tn 0 (s2.heap.push { cls:=.type "list",dict:=none,data:=.seq ([]:List Value).toArray }):=T.keep _ _ _ oy λb hb o e=>u8 _ e
 have fo3:∀ b ∈ fp,b<(s2.heap.push { cls:=.type "list",dict:=none,data:=.seq ([]:List Value).toArray }).objs.size:=λb hb=>by
  rw[Heap.size_push];exact Nat.lt_succ_of_lt (fo2 b hb)
 obtain⟨W,⟨m0,w0⟩,turn⟩:=h2 _ hD;generalize s2.heap.objs.size=D at*;generalize hs3:({ s2 with heap:=s2.heap.push { cls:=.type "list",dict:=none,data:=.seq ([]:List Value).toArray } }:Shared)=s3 at*;have st3':tn 0 s3.heap:=by rw[<-hs3];exact st3
 have fo3':∀ b ∈ fp,b<s3.heap.objs.size:=by rw[<-hs3];exact fo3
 refine wpAny_newFunctionEnv S.nocell (by intro y hy;simp at hy) (λh' hns hsb=>?_) S.kind;have keep:∀ b o,s3.heap.get? b=some o->h'.get? b=some o:=λb o e=>(hsb.2 b (re (ul e))).trans (u8 _ e)
 have I4:=mP (E:=E) (tk:=s3.toks+([]:List (Str×Value)).length) S I3 f3 fo3' hns keep;have st4:tn 0 h':=T.keep _ _ _ st3' λb hb o e=>keep b o e
 have stat:∀ {H':Hp},(∀ b ∈ fp,H' b=none)->∀ b ∈ fp,gG (fe X scope cl (xs++fr) s3 (upd H2 D (.lst [])) fp E) Y H' b:=λ{H'} hn b hb=>
  ⟨hn b hb,re (fo3' b hb),λz=>(mo.mp (I3.gw b z)).elim (f3 b hb).2.1 (f3 b hb).2.2.1,.inl hb,λy c hy=>(f3 b hb).2.2.2.2.1 y c (S.sub y c hy),λp hp=>(f3 b hb).2.2.2.2.2 p hp⟩
 have loop:codeAny (model X.prog X.w) X.A (.compLoop (.ListComp elt [⟨tgt,iter,ifs,0⟩] scope pos) 0 (.ref it) (.ref D) (compEnvC scope cl s3.heap.objs.size X.env))
   (compPost (model X.prog X.w) X.A X.xe (some (assign (.Name y py) X.env)) (λ_ s'=>SP X Y DD .next s') (.ref D) s3.heap.objs.size) { s3 with heap:=h',toks:=s3.toks+([]:List (Str×Value)).length }:=by
  refine codeAny_loop rfl (λn s'=>∃ i σ' H',Inv (fe X scope cl (xs++fr) s3 (upd H2 D (.lst [])) fp E) Y σ' H' s'/\tn i s'.heap/\(∀ b ∈ fp,H' b=none)/\W i n σ' H') (λn s5 hI=>?_) m0 ⟨0,_,_,I4,st4,λb hb=>(f3 b hb).1,w0⟩;show wpAny _ _ ((compTurn (.ListComp elt [⟨tgt,iter,ifs,0⟩] scope pos) 0 (.ref it) (.ref D) (compEnvC scope cl s3.heap.objs.size X.env)).onRaise (λx=>do noteFrame x (compEnvC scope cl s3.heap.objs.size X.env);theTreesLotGoes x)) _ _ s5;refine wpAny_noted ?_;refine pM (ht s3 (upd H2 D (.lst [])) fp).1 ?_;have bad:=qM (scope:=scope) (cl:=cl) (xs:=xs) (fr:=fr) (P:=λ_ s'=>SP X Y DD .next s') (use:=some (assign (.Name y py) X.env)) (D:=D) hx I3 f3;obtain⟨i,σ5,H5,I5,st5,fr5,w5⟩:=hI;rcases turn i n σ5 H5 w5 with⟨stop,q⟩|⟨go,Nn,hNn,step⟩
  .refine aG (T.done (fe X scope cl (xs++fr) s3 (upd H2 D (.lst [])) fp E) rfl rfl rfl hc i _ s5 σ5 H5 _ I5 (stat fr5) st5 stop) λr s6 ⟨hr,I6⟩=>?_
   subst hr;obtain⟨m,hn,_⟩:=I6.loc;have J:Inv X Y U H5 s6:=I3.pZ (ch:=fp) I6.os I6.base I6.hok I6.bare λb hb=>⟨(f3 b hb).2.2.2.1,(f3 b hb).2.1,(f3 b hb).2.2.2.2.1,(f3 b hb).2.2.2.2.2⟩
   have fC:H5 s3.heap.objs.size=none:=I6.free;have nL:s3.heap.objs.size≠X.env.locals:=Ne.symm (re I3.lt);have nC:∀ z c,X.env.cells.lookup z=some c->c≠s3.heap.objs.size:=λz c e=>by
    obtain⟨v,o,ho,_⟩:=I3.cell z c e;exact re (ul ho)
   show wpAny _ _ (assign (.Name y py) X.env (.ref D)) _ _ s6;refine wpAny_assign_Name (j4 J hN hni (.inl hy) (v:=.ref D) rfl (λs7 J7 hsb=>?_) (.inr hy));obtain⟨a,sb,ha⟩:=hsb;have hne:s3.heap.objs.size≠a:=by
    rcases ha with ha|ha
    .rw[ha];exact nL
    .exact Ne.symm (nC _ _ ha)
   refine⟨m,hn.sameBut sb hne,λh'' hs''=>⟨_,H5,?_,q⟩⟩;exact J7.turned (h':=h'') (t':=s7.toks) (it:=s3.heap.objs.size) (λb o hb e=>(hs''.2 b hb).trans e) fC nL (.inr I3.sz) nC λp hp=>re (ul (I3.pin p hp).1)
  .have fin:∀ {σ8:St}{H10:Hp}{s10:Shared},Inv (fe X scope cl (xs++fr) s3 (upd H2 D (.lst [])) fp E) Y σ8 H10 s10/\tn (i+1) s10.heap/\(∀ b ∈ fp,H10 b=none)->Nn σ8 H10->∃ m',m'<n/\∃ i σ' H',Inv (fe X scope cl (xs++fr) s3 (upd H2 D (.lst [])) fp E) Y σ' H' s10/\tn i s10.heap/\(∀ b ∈ fp,H' b=none)/\W i m' σ' H':=λ⟨I,t,f⟩ nn=>by
    obtain⟨m',hm,w10⟩:=hNn _ _ nn;exact⟨m',hm,i+1,_,_,I,t,f,w10⟩
   refine aG (T.item (fe X scope cl (xs++fr) s3 (upd H2 D (.lst [])) fp E) rfl rfl rfl hc i _ s5 σ5 H5 _ I5 (stat fr5) st5 go) λr s6 ⟨u,hr,h6⟩=>?_
   subst hr;refine aG h6 λ_ s7 ⟨xv,H7,I7,r7,y7,st7,fr7⟩=>?_
   have I7':=I7.pinned (stat fr7) (T.obj _ _ st7);refine wpAny_mono (hg s3 _ fp _ s7 σ5 H7 xv u _ I7' r7 (step xv _ y7)) (λ_ s8 ⟨σ8,H8,I8,q8⟩=>?_) bad;refine wpAny_mono ((ht s3 _ fp).2 _ s8 σ8 H8 _ I8 q8) (λok s9 ⟨H9,I9,q9⟩=>?_) bad;have back:∀ {H10:Hp}{s10:Shared},Inv (fe X scope cl (xs++fr) s3 (upd H2 D (.lst [])) fp E) _ σ8 H10 s10->Inv (fe X scope cl (xs++fr) s3 (upd H2 D (.lst [])) fp E) Y σ8 H10 s10/\tn (i+1) s10.heap/\(∀ b ∈ fp,H10 b=none):=λ{H10 s10} I10=>⟨I10.dC,T.keep _ _ _ st7 λb hb o e=>(I10.pin (b,o) (jp _ (jp _ (bw hb e)))).1,λb hb=>by
    obtain⟨o,e,d⟩:=T.obj _ _ st7 b hb;exact(I10.pin (b,o) (jp _ (jp _ (bw hb e)))).2.1⟩
   refine⟨λek=>?_,λek=>bd ⟨rfl,fin (back I9) (q9.2 ek)⟩⟩;refine wpAny_mono (he s3 _ fp _ s9 _ _ _ I9 (q9.1 ek)) (λuv s10 ⟨vv,H10,I10,r10,zs,hz,hzl,n10⟩=>?_) bad;refine wpAny_mono (gB (X:=fe X scope cl (xs++fr) s3 (upd H2 D (.lst [])) fp E) _ s10 _ H10 (.ref D) [vv] (.ref D) [uv] (λ_ H'=>H'=upd H10 D (.lst (zs++[vv]))) I10 rfl (.cons r10 .nil) ⟨D,zs,vv,rfl,rfl,hz,hzl,rfl⟩) (λ_ s11 ⟨_,H11,I11,_,e11⟩=>?_) bad;subst e11;exact bd ⟨rfl,fin (back I11) n10⟩
 exact codeAny_compStart_list loop (T.self _ 0 _ _ _ st4 loop)
def sN {elt iter:Expr}{x y:Str}{px py pos spos:Pos}{wi:TI}{te:TE}{ni:Nat}{E:XK}(hc:X.calm=true)(hx:ke X U E)(S:aZ X scope cl [x] fr sel)(hi:PI X (.Name x px) iter wi)
  (he:∀ (s:Shared) (H:Hp) (fp:List Addr),PE (fe X scope cl (x::fr) s H fp E) elt te) (hs:∀ x,foldedSetIterable iter X.env x=pure x) (hN:X.N.Nodup) (hni:X.N[ni]? =some y) (hy:X.env.scope.names.lookup y=some .local)
  (hsw:swapsWith (.ListComp elt [⟨.Name x px,iter,[],0⟩] scope pos) (some (.Name y py)) spos.line X.env=pure true):GA X U (.Assign [.Name y py] (.ListComp elt [⟨.Name x px,iter,[],0⟩] scope pos) spos) (λD U H=>Gw wi te sel U H λv H1=>D.nx (U.set ni (some v)) H1):=λY s H D I h=>
 eU hc hx S hi.up (λs H fp=>lj S) (λ_ _ _=>kE) he hs hN hni hy hsw Y s H D I ⟨_,h,λ_ _ q=>q.g⟩
section
variable {prog:Program}{w:World}{A:Around}{E:HC}
def jZ {it t:Addr}{items:Array Value}(hne:t≠it):∀ (n i:Nat) (s:Shared) (Q:List Value->Shared->Prop),s.heap.IsListIter it t i->s.heap.IsList t items->i+n<=items.size->
  (∀ h',h'.IsListIter it t (i+n)->Heap.SameBut it s.heap h'->Q ((items.toList.drop i).take n) { s with heap:=h' })->wpAny (model prog w) A (draw (.ref it) n) Q E s
 |0,i,s,Q,hit,_,_,hQ=>by
  show wpAny _ _ (pure []) Q E s;exact bd (by simpa using hQ s.heap hit (Heap.SameBut.refl ..))
 |n+1,i,s,Q,hit,ht,hle,hQ=>by
  have hlt:i<items.size:=by omega
  show wpAny _ _ (pyNext (.ref it) >>= _) Q E s;refine ap (wpAny_pyNext_list_item hit ht (x:=items[i]) (by simp[hlt]) λh₁ hit₁ hs₁=>?_);refine ap (bm (jZ hne n (i+1) _ _ hit₁ (ht.extBut hs₁.extBut hne) nofun λh₂ hit₂ hs₂=>bd ?_));have hd:items.toList.drop i=items[i]::items.toList.drop (i+1):=by simp[List.drop_eq_getElem_cons,hlt]
  have:=hQ h₂ (by rw[show i+(n+1)=i+1+n by omega];exact hit₂) (hs₁.trans hs₂);rw[hd,List.take_succ_cons]at this;exact this
def gg {t:Addr}{items:Array Value}{Q:List Value->Shared->Prop}(hh:A.handled=none)(ht:s.heap.IsList t items)(hty:s.TypeIs (.ref t) "list")
  (hQ:∀ h',Heap.ExtBut s.heap.objs.size s.heap h'->Q items.toList { s with heap:=h' }):wpAny (model prog w) A (unpackItems (.ref t) items.size none) Q E s:=by
 have hlt:t≠s.heap.objs.size:=by obtain⟨o,ho,_⟩:=id ht;exact re (ul ho)
 unfold unpackItems;refine ap ?_
 .unfold notIterableAtAll;refine ap (wpAny_specialOf hty PySem.F.slot_list_iter.lookup ?_);refine bd ?_;simp only[Bool.false_eq_true,if_false];refine ap (bm (wpAny_pyIter_list ht ?_));refine ap (bm (jZ hlt items.size 0 _ _ ⟨_,ut _ rfl,rfl,rfl⟩ (ht.push _) nofun λh₁ hit₁ hs₁=>?_));have hall:List.take items.size (List.drop 0 items.toList)=items.toList:=by
   rw[drop_zero];exact take_of_length_le (by simp)
  rw[hall];rw[if_neg (by simp)];have ht₁:h₁.IsList t items:=(ht.push _).extBut hs₁.extBut hlt;refine ap (bm (wpAny_pyNext_list_end hh hit₁ ht₁ (by simp) λh₂ he₂=>?_));simp only[Option.isSome_none,Bool.false_eq_true,if_false];refine bd (hQ h₂ λb o hb e=>he₂ b o hb (hs₁.extBut b o hb (u8 _ e)))
end
def BX {es:List Expr}{k:Nat}{pos:Pos}{t:xF}{n:Nat}(hc:X.calm=true)(h:BP X es t)
  (hn:(assignEach es X.env).length=n) (hst:(assignEach es X.env).findIdx? (·.1)=none){Y:HD}{H:Hp}{a:Addr}{u:Value}{xs:List V}{Q:St->Hp->Prop}(I:Inv X Y U H s) (r:RelV (.ref a) u)
  (hq:aV X.K H a xs) (hl:xs.length=n) (hw:t xs U H Q):wpAny (model X.prog X.w) X.A (assign (.Tuple es k pos) X.env u) (λ_ s'=>∃ σ' H',Inv X Y σ' H' s'/\Q σ' H') X.xe s:=by
 cases r;obtain⟨its,rv,p,hz⟩:=I.list hq;rw[assign_Tuple];refine ap (wpAny_standAt ?_);unfold unpack;have e1:(assignEach es X.env).length=its.toArray.size:=by
  rw[hn,<-hl];simp[rv.length]
 rw[e1,hst];refine ap (bm (gg (I.ok.hd hc) p.isList p.isList.typeIs λh' hx=>?_));have I1:Inv X Y U H { s with heap:=h' }:=I.kept (t':=s.toks) λb o e=>hx b o (re (ul e)) e
 exact h Y _ U H xs _ Q I1 (by simpa using rv) hw
end
end L2
namespace L3
open PySem PySem.Spec L2
set_option maxHeartbeats 2000000
abbrev wk (S:Sn):List Nat->List Expr->Bool
 | [],[]=>true
 |i::is,.Name x _::r=>S.loc i x&&wk S is r
 |_,_=>false
abbrev Gq (S:Sn):EW->Expr->Bool
 | .nm i,e=>match e with| .Name x _=>S.loc i x|_=>false
 | .tp is,e=>match e with| .Tuple ts _ _=>wk S is ts|_=>false
 | .nt i is,e=>match e with| .Tuple y1 _ _=>(match y1 with| [y2,y3]=>(match y2 with| .Name x _=>(match y3 with| .Tuple ts _ _=>S.loc i x&&wk S is ts|_=>false)|_=>false)|_=>false)|_=>false
mutual
noncomputable def mS (S:Sn):Sx->Stmt->Bool
 | .asg i e,s=>match s with| .Assign y1 e' _=>(match y1 with| [y2]=>(match y2 with| .Name x _=>S.loc i x&&mE S e e'|_=>false)|_=>false)|_=>false
 | .asgT is e,_=>false
 | .par is es,_=>false
 | .sub o i v,s=>match s with| .Assign y1 v' _=>(match y1 with| [y2]=>(match y2 with| .Subscript o' i' _=>mE S o o'&&mE S i i'&&mE S v v'&&dY i'|_=>false)|_=>false)|_=>false
 | .fld o f v,s=>match s with| .Assign y1 v' _=>(match y1 with| [y2]=>(match y2 with| .Attribute o' f' _=>mE S o o'&&decide (f=f')&&mE S v v'|_=>false)|_=>false)|_=>false
 | .aug i op e,_=>false
 | .augS o i op e,s=>match s with| .AugAssign y1 op' e' _=>(match y1 with| .Subscript o' i' _=>mE S o o'&&mE S i i'&&decide (op=op')&&mE S e e'&&dY i'|_=>false)|_=>false
 | .augF o f op e,s=>match s with| .AugAssign y1 op' e' _=>(match y1 with| .Attribute o' f' _=>mE S o o'&&decide (f=f')&&decide (op=op')&&mE S e e'|_=>false)|_=>false
 | .ret e,s=>match s with| .Return y1 _=>(match y1 with|some e'=>mE S e e'|_=>false)|_=>false
 | .retN,_=>false
 | .pass,_=>false
 | .brk,_=>false
 | .cont,_=>false
 | .expr e,s=>match s with| .Expr e' _=>mE S e e'&&o7 e'|_=>false
 | .ife c a b,s=>match s with| .If c' a' b' _=>mT S c c'&&mB S a a'&&mB S b b'|_=>false
 | .whl c b,s=>match s with| .While c' b' y1 _=>(match y1 with| []=>mT S c c'&&mB S b b'|_=>false)|_=>false
 | .for t it b,s=>match s with| .For t' it' b' y1 _=>(match y1 with| []=>Gq S t t'&&mI S it t' it'&&mB S b b'&&cC it'|_=>false)|_=>false
 | .rais e,s=>match s with| .Raise y1 y2 _=>(match y1 with|some e'=>(match y2 with|none=>mE S e e'|_=>false)|_=>false)|_=>false
 | .tryx b hs,_=>false
noncomputable def mB (S:Sn):jo->List Stmt->Bool
 | .nil,l=>l.isEmpty
 | .cons s r,l=>match l with|s'::r'=>mS S s s'&&mB S r r'| []=>false
noncomputable def mH (S:Sn):wA->List ExceptHandler->Bool
 | .nil,l=>l.isEmpty
 | .cons c i b hs,l=>match l with| .ExceptHandler (some (.Name x _)) (some n) (b0::bs) _::r=>S.qJ x&&decide (S.T.gcl.lookup x=some c)&&decide (S.N[i]? =some n)&&decide (S.sc.names.lookup n=some .local)&&mB S b (b0::bs)&&mH S hs r|_=>false
end
structure Gs (X:Cx) (G:Gx) (S:Sn) (k:Nat) (E:St->XK):Prop extends Gd X G S k E where
 own:PassesOwn (model X.prog X.w) X.A X.env X.xe
 stk:X.stack=X.env::X.outer
 fr:X.env.frame=some X.env.locals
 fn:∀ x,X.fn x=true
variable {p:Pos}{elt:Expr}{gs:List Comprehension}{scope:Scope}
section
variable {X:Cx}{G:Gx}{S:Sn}{k:Nat}{E:St->XK}
def Gs.bj (g:Gs X G S k E)(e:Value):Gs (X.bj e) { G with cm:=false } S k (λ_ _ _=>False) where
 hK:=g.hK
 hT:=g.hT
 sc:=g.sc
 N:=g.N
 nd:=g.nd
 pass:=λY U H s e s' I h=>by
  obtain⟨e,H',C,dx,fs,T,_,_,_,_,_,_,_,_,_,q⟩:=h;exact q.elim
 cm:=λz=>by cases z
 xok:=λz=>by cases z
 xst:=g.xst
 room:=λz=>by cases z
 un:=g.un
 tab:=g.tab
 fns:=g.fns
 own:=PassesOwn.never
 stk:=g.stk
 fr:=g.fr
 fn:=g.fn
def iS (env:Env):∀ {is:List Nat}{ts:List Expr},wk S is ts=true->(assignEach ts env).length=is.length/\(assignEach ts env).findIdx? (·.1)=none
 | [],[],_=>⟨rfl,rfl⟩
 | [],_::_,h=>by simp[wk]at h
 |_::_,[],h=>by simp[wk]at h
 |i::is,t::ts,h=>by
  cases t<;>simp[wk]at h
  rename_i x p;obtain⟨h1,h2⟩:=iS env h.2;have e:assignEach (.Name x p::ts) env=(false,assign (.Name x p) env)::assignEach ts env:=rfl;rw[e];refine⟨by simp[h1],?_⟩;rw[List.findIdx?_cons];simp[h2]
def lq (g:Gs X G S k E):∀ {is:List Nat}{ts:List Expr},wk S is ts=true->BP X ts (gl is)
 | [],[],_=>λY s U H vs us Q I r h=>lC Y s U H vs us Q I r ⟨length_eq_zero_iff.mp h.1,by
   have:=h.2;have e:vs=[]:=length_eq_zero_iff.mp h.1;subst e;exact this⟩
 | [],_::_,h=>by simp[wk]at h
 |_::_,[],h=>by simp[wk]at h
 |i::is,t::ts,h=>by
  cases t<;>simp[wk]at h
  rename_i x p;obtain⟨hi,hx⟩:=g.loc h.1;have h1:PG X (.Name x p) (fO i):=fQ (by rw[g.N];exact g.nd) hi hx (.inl (g.fn x));have h2:=lq g h.2;intro Y s U H vs us Q I r q;refine fT h1 h2 rfl Y s U H vs us Q I r ?_;obtain⟨hl,q⟩:=q;cases vs with
  |nil=>simp at hl
  |cons v vs=>exact⟨v,vs,rfl,by simpa using hl,q⟩
def Ez (g:Gs X G S k E)(hc:G.cm=true){t:EW}{e:Expr}(h:Gq S t e=true):PG X e (λv U H Q=>wG U t G.R.K v H λσ1=>Q σ1 H):=by
 cases t with
 |nm i=>
  conv at h=>lhs;whnf
  split at h
  .obtain⟨hi,hx⟩:=g.loc h;exact fQ (by rw[g.N];exact g.nd) hi hx (.inl (g.fn _))
  .cases h
 |tp is=>
  conv at h=>lhs;whnf
  split at h
  .intro Y s U H v u Q I r q;obtain⟨a,xs,rfl,hq,hl,q⟩:=q;obtain⟨e1,e2⟩:=iS X.env h;rw[g.hK]at hq;rcases hq with hq|hq
   .exact lH (g.cm hc) (lq g h) e1 e2 Y s U H _ u Q I r ⟨a,xs,rfl,hq,hl,hl,q⟩
   .exact BX (g.cm hc) (lq g h) e1 e2 I r hq hl ⟨hl,q⟩
  .cases h
 |nt i is=>
  conv at h=>lhs;whnf
  split at h
  .split at h
   .split at h
    .split at h
     .intro Y s U H v u Q I r q;simp only[nb]at h;obtain⟨a,y,b,ys,rfl,hq,hb,hl,q⟩:=q;obtain⟨e1,e2⟩:=iS X.env h.2;obtain⟨hi,hx⟩:=g.loc h.1;rw[g.hK]at hq hb;refine lH (n:=2) (g.cm hc) (fT (fQ (by rw[g.N];exact g.nd) hi hx (.inl (g.fn _))) (fT (lH (g.cm hc) (lq g h.2) e1 e2) lC rfl) rfl) rfl rfl Y s U H _ u Q I r ⟨a,_,rfl,hq,rfl,y,_,rfl,.ref b,_,rfl,b,ys,rfl,hb,hl,hl,rfl,q⟩
     .cases h
    .cases h
   .cases h
  .cases h
def rW {e o i:Expr}(n:Nat)(env:Env):swapsWithSole [.Subscript o i p] e n env=pure false:=by
 cases e<;>rfl
def sR {e o:Expr}{f:Str}(n:Nat)(env:Env):swapsWith e (some (.Attribute o f p)) n env=pure false:=by
 cases e<;>rfl
def oh {e o i:Expr}(env:Env):swappedStores [.Subscript o i p] e env=pure none:=by
 cases e<;>rfl
def pH {o i:Expr}{pos:Pos}{env:Env}(h:dY i=true):∀ v,assign (.Subscript o i pos) env v=(do
   let ov <-holding [v] (eval o env)
   let iv <-holding [v,ov] (eval i env)
   standAt pos
   holding [v,ov,iv] (setItem ov iv v)
   release [v,ov,iv] []):=by
 intro v;cases i<;>first|rfl|cases h
def wX {i:Expr}(h:dY i=true):∀ ov iv new,augStore i ov iv new=(do holding [new,ov,iv] (setItem ov iv new);release [new,ov,iv] [];pure .next):=by
 intro ov iv new;cases i<;>first|rfl|cases h
def zL (op:Operator):E4 X op (D4 op):=by
 intro Y s U H x y v u Q I r1 r2 h;unfold D4 at h
 split at h
 .exact Cr Y s U H _ _ v u Q I r1 r2 ⟨_,_,rfl,rfl,h⟩
 .exact A7 Y s U H _ _ v u Q I r1 r2 ⟨_,_,rfl,rfl,h⟩
 .exact h.elim
def BL (g:Gd X G S k E):Bg X (vQ G.R.K):=by
 intro Y s U H x y v u Q I r1 r2 h;unfold vQ at h;rw[g.hK]at h
 split at h
 .obtain⟨xs,w,h1,h2,h3,q⟩:=h;exact um Y s U H _ _ v u Q I r1 r2 ⟨_,xs,_,w,rfl,rfl,h1,h2,h3,q⟩
 .exact h.elim
def pC {py:Pos}{y:Str}{n:Nat}{env:Env}(hk:env.scope.kind=.function):∃ b,swapsWith (.ListComp elt gs scope p) (some (.Name y py)) n env=pure b/\(b=true->env.scope.names.lookup y=some .local):=by
 refine⟨_,rfl,λh=>?_⟩;simp only[nb]at h;have:=h.1.1.2;exact beq_iff_eq.mp this
end
set_option maxHeartbeats 2000000
variable {S:Sn}
section
variable {k:Nat}
def DP {x:Ex}(h:mE S x (.ListComp elt gs scope p)=true):(∃ e' sel it y py iter,x=.lc e' sel it/\gs=[⟨.Name y py,iter,[],0⟩]/\
  eW S scope [y] sel=true/\mI S it (.Name y py) iter=true/\mE { S with sc:=di S.sc scope,N:=y::sel.filterMap λi=>S.N[i]? } e' elt=true/\cC iter=true)\/
  (∃ e' c sel it y py iter c',x=.lci e' c sel it/\gs=[⟨.Name y py,iter,[c'],0⟩]/\
  eW S scope [y] sel=true/\mI S it (.Name y py) iter=true/\mE { S with sc:=di S.sc scope,N:=y::sel.filterMap λi=>S.N[i]? } e' elt=true/\mT { S with sc:=di S.sc scope,N:=y::sel.filterMap λi=>S.N[i]? } c c'=true/\cC iter=true)\/
  ∃ e' n sel it ts kt pt iter,x=.lct e' n sel it/\gs=[⟨.Tuple ts kt pt,iter,[],0⟩]/\
  eW S scope (EM ts) sel=true/\uP { S with sc:=di S.sc scope,N:=EM ts++sel.filterMap λi=>S.N[i]? } (List.range n) ts=true/\(EM ts).length=n/\mI S it (.Tuple ts kt pt) iter=true/\mE { S with sc:=di S.sc scope,N:=EM ts++sel.filterMap λi=>S.N[i]? } e' elt=true/\cC iter=true:=by
 cases x<;>(try (cases(show false=true from h);done))
 all_goals (conv at h=>lhs;whnf)
 all_goals (iterate 5 (split at h<;>first|(cases h;done)|skip))
 all_goals (simp only[nb,decide_eq_true_eq]at h)
 all_goals first
  |exact .inl ⟨_,_,_,_,_,_,rfl,rfl,h.1.1.1,h.1.1.2,h.1.2,h.2⟩
  |exact .inr (.inl ⟨_,_,_,_,_,_,_,_,rfl,rfl,h.1.1.1.1,h.1.1.1.2,h.1.1.2,h.1.2,h.2⟩)
  |exact .inr (.inr ⟨_,_,_,_,_,_,_,_,rfl,rfl,h.1.1.1.1.1,h.1.1.1.1.2,h.1.1.1.2,h.1.1.2,h.1.2,h.2⟩)
def oa (e:Expr){x:Ex}(h:mE S x e=true):o7 e=true\/∃ elt gs scope p,e=.ListComp elt gs scope p:=by
 cases e<;>first|exact .inl rfl|exact .inr ⟨_,_,_,_,rfl⟩|(cases x<;>cases(show false=true from h))
def Dl {G:Gx}{X:Cx}{E:St->XK}(g:Gs X G S k E){i:Nat}{x:Str}{e:Ex}{e':Expr}{px:Pos}(hx:S.loc i x=true)(h:mE S e e'=true):PS X (.Assign [.Name x px] e' p) (λD U H=>wS (.asg i e) G D E U H):=by
 obtain⟨hi,hl⟩:=g.loc hx;have hN:X.N.Nodup:=by rw[g.N];exact g.nd
 rcases oa e' h with hn|⟨elt,gs,scope,pp,rfl⟩
 .exact tQ hN hi hl (sE e g.toGd h) (fu hn _ _ _) (.inl (g.fn x))
 .intro Y s U H D I q;obtain⟨b,hb,hb2⟩:=pC (elt:=elt) (gs:=gs) (scope:=scope) (p:=pp) (py:=px) (y:=x) (n:=p.line) (env:=X.env) I.ok.kind;cases b with
  |false=>exact tQ hN hi hl (sE e g.toGd h) hb (.inl (g.fn x)) Y s U H D I q
  |true=>
   rcases DP h with⟨e2,sel,it,y,py,iter,rfl,rfl,h1,h2,h3,h4⟩|⟨e2,c,sel,it,y,py,iter,c',rfl,rfl,h1,h2,h3,h5,h4⟩|⟨e2,n,sel,it,ts,kt,pt,iter,rfl,rfl,h1,h5,h6,h2,h3,h4⟩
   .obtain⟨hc,q⟩:=(show G.cm=true/\wI G it U H (λJ H1=>tL (λσ' H' Q'=>wE G e2 σ' H' Q' (E U)) J (none::fS U sel) H1 (λx H1=>D.nx (U.set i (some x)) H1)) (E U) from q);rw[wb]at q;obtain⟨cl,C⟩:=bS g.toGd I.ok h1;exact sN (g.cm hc) (g.toGd.cx hc U) C (sI it g.toGd h2) (λs H fp=>sE e2 (g.toGd.comp C (E U) s H fp) h3) (bA h4 _) hN hi (hb2 rfl) hb Y s H D I q
   .obtain⟨hc,q⟩:=(show G.cm=true/\wI G it U H (λJ H1=>zJ (λσ' H' Q'=>wT G c σ' H' Q' (E U)) (λσ' H' Q'=>wE G e2 σ' H' Q' (E U)) J (none::fS U sel) H1 (λx H1=>D.nx (U.set i (some x)) H1)) (E U) from q);rw[vN]at q;obtain⟨cl,C⟩:=bS g.toGd I.ok h1;exact eU (g.cm hc) (g.toGd.cx hc U) C (sI it g.toGd h2) (λs H fp=>lj C) (λs H fp=>qo (sT c (g.toGd.comp C (E U) s H fp) h5)) (λs H fp=>sE e2 (g.toGd.comp C (E U) s H fp) h3) (bA h4 _) hN hi (hb2 rfl) hb Y s H D I q
   .cases(show false=true from h)
mutual
theorem sS:∀ (x:Sx){G:Gx}{X:Cx}{S:Sn}{E:St->XK},Gs X G S k E->∀ {st:Stmt},mS S x st=true->PS X st (λD U H=>wS x G D E U H)
 | .asg i e,G,X,S,E,g,st,h=>by
  sleep 3
  simp only[nb]at h;exact Dl g h.1 h.2
 | .asgT is e,G,X,S,E,g,st,h=>by cases(show false=true from h)
 | .par is es,G,X,S,E,g,st,h=>by cases(show false=true from h)
 | .sub o i v,G,X,S,E,g,st,h=>by
  sleep 3
  simp only[nb]at h;obtain⟨⟨⟨h1,h2⟩,h3⟩,h4⟩:=h;exact Bh (sE v g.toGd h3) (BD (sE o g.toGd h1) (sE i g.toGd h2) (pV g.un) (pH h4)) (rW _ _) (oh _) rfl
 | .fld o f v,G,X,S,E,g,st,h=>by
  sleep 3
  simp only[nb,decide_eq_true_eq]at h;obtain⟨⟨h1,rfl⟩,h3⟩:=h;intro Y s U H D I q;have q':wE G v U H (λy H1=>wE G o U H1 (λx H2=>wC G f x y H2 (λH3=>D.nx U H3)) (E U)) (E U):=q;refine plainObj_wpAny_Assign_Attribute (aG (sE v g.toGd h3 Y s U H _ I q') λu s1 ⟨y,H1,I1,ry,q⟩=>aG (sE o g.toGd h1 Y s1 U H1 _ I1 q) λov s2 ⟨x,H2,I2,rx,q2⟩=>?_) (sR _ _);unfold wC at q2;obtain⟨a,i,rfl,hna,q2⟩:=q2;obtain rfl:ov=Value.ref a:=rx;have n:=g.tab.na i f hna;rcases q2 with⟨dx,fs,ho,ea,l,q2⟩|⟨d,fs,fr,ho,ea,l,q2⟩|⟨fr,ho,ea,q2⟩
  .exact ju I2 ea (g.tab.oc i ho).1 n l ry λs3 I3=>⟨U,_,I3,q2⟩
  .exact jr I2 ea (g.tab.xc i ho).1 n l ry λs3 I3=>⟨U,_,I3,q2⟩
  .exact iL I2 ea (g.tab.xc i ho).1 n ry λd s3 hd I3=>⟨U,_,I3,q2 d hd⟩
 | .aug i op e,G,X,S,E,g,st,h=>by cases(show false=true from h)
 | .augS o i op e,G,X,S,E,g,st,h=>by
  sleep 2
  simp only[nb,decide_eq_true_eq]at h;obtain⟨⟨⟨⟨h1,h2⟩,rfl⟩,h3⟩,h4⟩:=h;exact yt (sE o g.toGd h1) (sE i g.toGd h2) (BL g.toGd) (sE e g.toGd h3) (zL op) (pV g.un) (wX h4)
 | .augF o f op e,G,X,S,E,g,st,h=>by
  sleep 2
  simp only[nb,decide_eq_true_eq]at h;obtain⟨⟨⟨h1,rfl⟩,rfl⟩,h3⟩:=h;intro Y s U H D I q;have q':wE G o U H (λx H1=>mh G f x H1 (λu H2=>wE G e U H2 (λy H3=>D4 op u y H3 λz H4=>wC G f x z H4 (λH5=>D.nx U H5)) (E U))) (E U):=q;refine wpAny_AugAssign_AttributeAny (aG (sE o g.toGd h1 Y s U H _ I q') λov s1 ⟨x,H1,I1,rx,qf⟩=>?_);unfold mh at qf;obtain⟨a,i,fs,v,rfl,ea,hna,l,q1⟩:=qf;obtain rfl:ov=Value.ref a:=rx;have n:=g.tab.na i f hna;have go:∀ (u:Value) (s2:Shared),Inv X Y U H1 s2->RelV v u->wpAny (model X.prog X.w) X.A (eval _ X.env) (λw s3=>wpAny (model X.prog X.w) X.A (inplaceOp op u w) (λnew s4=>wpAny (model X.prog X.w) X.A (setAttr (.ref a) f new) (λ_=>SP X Y D .next) X.xe s4) X.xe s3) X.xe s2:=λu s2 I2 ru=>by
   refine aG (sE e g.toGd h3 Y s2 U H1 _ I2 q1) λw s3 ⟨y,H3,I3,ry,q3⟩=>aG (zL op Y s3 U H3 v y u w _ I3 ru ry q3) λnew s4 ⟨z,H4,I4,rz,q4⟩=>?_
   unfold wC at q4;obtain⟨a',i',ea',hna',q5⟩:=q4;cases ea';have n':=g.tab.na i' f hna';rcases q5 with⟨dx,fs',ho,eb,l',q5⟩|⟨d,fs',fr,ho,eb,l',q5⟩|⟨fr,ho,eb,q5⟩
   .exact ju I4 eb (g.tab.oc i' ho).1 n' l' rz λs5 I5=>⟨U,_,I5,q5⟩
   .exact jr I4 eb (g.tab.xc i' ho).1 n' l' rz λs5 I5=>⟨U,_,I5,q5⟩
   .exact iL I4 eb (g.tab.xc i' ho).1 n' rz λd s5 hd I5=>⟨U,_,I5,q5 d hd⟩
  rcases ea with⟨ho,dx,ea⟩|⟨ho,dx,fr,ea⟩
  .exact jd I1 ea (g.tab.oc i ho).1 n l λu s2 I2 ru=>go u s2 I2 ru
  .exact j5 I1 ea (g.tab.xc i ho).1 n l λu s2 I2 ru=>go u s2 I2 ru
 | .ret e,G,X,S,E,g,st,h=>by
  sleep 2
  exact Cg (sE e g.toGd h)
 | .retN,G,X,S,E,g,st,h=>by cases(show false=true from h)
 | .pass,G,X,S,E,g,st,h=>by cases(show false=true from h)
 | .brk,G,X,S,E,g,st,h=>by cases(show false=true from h)
 | .cont,G,X,S,E,g,st,h=>by cases(show false=true from h)
 | .expr e,G,X,S,E,g,st,h=>by
  sleep 1
  simp only[nb]at h;exact yC (sE e g.toGd h.1) (fu h.2 _ _ _)
 | .ife c a b,G,X,S,E,g,st,h=>by
  sleep 1
  simp only[nb]at h;exact PS.imp (DU (PT.cP (sT c g.toGd h.1.1)) (sB a g h.1.2) (sB b g h.2)) λD U H q=>⟨_,q,λk H1 z=>by rwa [cQ]at z⟩
 | .whl c b,G,X,S,E,g,st,h=>by
  sleep 2
  simp only[nb]at h;refine PS.imp (vc g.own (PT.cP (sT c g.toGd h.1)) (sB b g h.2)) λD U H q=>?_
  obtain⟨W,w0,w1⟩:=q;exact⟨W,w0,λm U H w=>⟨_,w1 m U H w,λk H1 z=>by rwa [cQ]at z⟩⟩
 | .for t it b,G,X,S,E,g,st,h=>by
  sleep 2
  simp only[nb]at h;obtain⟨⟨⟨h1,h2⟩,h3⟩,h4⟩:=h;intro Y s U H D I q
  conv at q=>whnf
  obtain⟨hc,q⟩:=q;unfold nB at q;exact CC g.own (g.cm hc) (sI it g.toGd h2) (Ez g hc h1) (sB b g h3) (bA h4 _) Y s U H D I q
 | .rais e,G,X,S,E,g,st,h=>by
  sleep 3
  intro Y s U H D I q
  conv at q=>whnf
  obtain⟨hc,q⟩:=q;refine uf (g.xok hc) (g.cm hc) (PE.cP (sE e g.toGd h)) Y s U H D I ⟨_,q,λv H1 z=>?_⟩;obtain⟨a,i,dx,fs,ev,ea,hi,q⟩:=z;exact⟨a,_,dx,fs,ev,ea,(g.tab.xc i hi).1,q⟩
 | .tryx b hs,G,X,S,E,g,st,h=>by cases(show false=true from h)
theorem sB:∀ (x:jo){G:Gx}{X:Cx}{S:Sn}{E:St->XK},Gs X G S k E->∀ {st:List Stmt},mB S x st=true->xw X st (λD U H=>wB x G D E U H)
 | .nil,G,X,S,E,g,[],h=>yE
 | .nil,G,X,S,E,g,_::_,h=>by cases(show false=true from h)
 | .cons x xs,G,X,S,E,g,[],h=>by cases(show false=true from h)
 | .cons x xs,G,X,S,E,g,st::sts,h=>by
  have h:(mS S x st&&mB S xs sts)=true:=h;simp only[nb]at h;exact vM (sS x g h.1) (sB xs g h.2)
theorem sH:∀ (x:wA){G:Gx}{X:Cx}{S:Sn}{E:St->XK},Gs X G S k E->∀ {hs:List ExceptHandler},mH S x hs=true->∀ {Y:HD}{U:St}{H:Hp}{s:Shared}{e C:Addr}{dx:Option Addr}{fs:List (Str×V)}{T:Addr}{D:Ends},
  L2.Inv X Y U H s->H e=some (.exc C dx fs false)->X.s₀.heap.objs.size<=T->H T=none->(∀ p ∈ X.pn++Y,p.1≠T)->tF s.heap e T .none->wH x G D U e H->wpAny (model X.prog X.w) X.A (handleBy (.ref e) X.env hs) (SP X Y D) X.xe s
 | .nil,G,X,S,E,g,hs,h,Y,U,H,s,e,C,dx,fs,T,D,I,he,hT,hH,hp,st,q=>by
  simp only[wH]at q
 | .cons c i b hs,G,X,S,E,g,l,h,Y,U,H,s,e,C,dx,fs,T,D,I,he,hT,hH,hp,st,q=>by
  conv at h=>lhs;whnf
  split at h
  .simp only[nb,decide_eq_true_eq]at h;obtain⟨⟨⟨⟨⟨h1,h2⟩,h3⟩,h4⟩,h5⟩,h6⟩:=h;obtain⟨hg,hdb⟩:=g.glob h1;have hm:=g.tab.gcl _ _ (g.hT▸h2);obtain⟨j,dx',fs',kk,he',hxc,hsub,q⟩:=(show ∃ j dx fs k,H e=some (.exc (G.R.cad j) dx fs false)/\G.T.xc.contains j=true/\G.T.sub.lookup (j,c)=some k/\_ from q);have ee:=he.symm.trans he'
   injection ee with ee
   injection ee with e1 e2 e3 e4
   subst e1;obtain⟨_,hs2⟩:=g.tab.sub j c kk hsub;obtain⟨hs3,hs4⟩:=hs2 hxc;refine nE (i:=i) I he hT hH hp st (g.tab.xc j hxc).1 hs4 hs3 hg hm (by rw[g.N];exact g.nd) (by rw[g.N];exact h3) (by rw[g.sc];exact h4) hdb (λhk s2 J=>?_) λhk=>?_
   .rw[hk]at q;unfold gY at q;exact sB b (g.bj (.ref e)) h5 Y s2 _ H _ J q
   .rw[hk]at q;unfold gY at q;exact sH hs g h6 I he hT hH hp st q
  .cases h
end
end
abbrev cA (T:Tab)(R:Rt):Nat->Nat->Sp
 |0,_=>λ_ _ _ _=>False
 |k+1,f=>λvs H Q E=>match T.fns[f]? with
  |some d=>vs.length=d.ps.length/\wB d.body ⟨T,R,cA T R k,true⟩ { nx:=λ_ H'=>Q .non H',rt:=Q } (λ_=>E) (start d.N vs) H
  |none=>False
structure sr (K:W.Frag) (T:Tab) (f:Addr) (d:aH):Prop where
 ex:∃ (name qual:Str) (params:Arguments) (body:List Stmt) (scope:Scope) (dV kV doc pm cdv ct oc:Value) (od an:Option Addr) (osl:Array (Option Value)),
  K.lookup f=some ⟨oc,od,.func (W.fnOf name qual params body scope dV kV doc pm an cdv ct),osl⟩/\W.codeIn K cdv qual=true/\iz d.N d.ps scope/\mB ⟨T,scope,d.N⟩ d.body body=true/\
  ∀ j,∃ ds,Binds K (W.fnOf name qual params body scope dV kV doc pm an cdv ct) d.ps ds/\Vals (d.dfl.drop j) ds
def v7 {P:Program}{w:World}{K:W.Frag}{mg:HE}{base:Heap}{T:Tab}{R:Rt}(tab:yh K mg T R)(hK:R.K=K)(fs:∀ f d,T.fns[f]? =some d->sr K T (R.fad f) d):
  ∀ (k f:Nat) (d:aH),T.fns[f]? =some d->vD P w K mg base (2*k) (R.fad f) d (cA T R k f)
 |0,f,d,hd=>by
  obtain⟨name,qual,params,body,scope,dV,kV,doc,pm,cdv,ct,oc,od,an,osl,lk,hcd,S,hm,hb⟩:=(fs f d hd).ex;exact⟨⟨_,⟨λ_ _ _ _ h=>h.elim,λ_ _ _ _ _ _ _ _ _ _ _ _ _ h=>h.elim⟩,hb⟩,λ_ _ _ _ _=>⟨λ_ _ _ _ h=>h.elim,λ_ _ _ _ _ _ _ _ _ _ _ _ _ h=>h.elim⟩⟩
 |k+1,f,d,hd=>by
  obtain⟨name,qual,params,body,scope,dV,kV,doc,pm,cdv,ct,oc,od,an,osl,lk,hcd,S,hm,hb⟩:=(fs f d hd).ex;have F:=C8 (P:=P) (w:=w) (mg:=mg) (base:=base) (CX:=vJ P w) (k:=2*k+1) (sp:=cA T R (k+1) f) lk hcd S (λvs H Q E h=>?_) (λA outer s H vs Q E hr h=>?_)
  .refine⟨⟨_,F,hb⟩,λfd oc' od' osl' lk'=>?_⟩;have e:=lk.symm.trans lk'
   injection e with e
   injection e with e1 e2 e3 e4
   injection e3 with e3
   subst e3;exact F
  .simp only[cA,hd]at h;exact h.1
  .simp only[cA,hd]at h;refine⟨λD U H=>wB d.body ⟨T,R,cA T R k,true⟩ D (λ_=>E) U H,?_,h.2⟩;have hx:=rQ (P:=P) (w:=w) (K:=K) (mg:=mg) (base:=base) (N:=d.N) (qual:=qual) (scope:=scope) (f:=R.fad f) (cd:=cdv) (A:=A) (outer:=outer) (E:=E) (s:=s) (H:=H);refine sB (k:=2*k) d.body (G:=⟨T,R,cA T R k,true⟩) (S:=⟨T,scope,d.N⟩) { hK:=hK,hT:=rfl,sc:=rfl,N:=rfl,nd:=S.nd,pass:=jX hx,cm:=λ_=>rfl,xst:=⟨_,_,_,rfl,rfl,rfl⟩,room:=λ_=>hr,un:= ?_,tab:=tab,fns:=λf' d' hd'=>v7 tab hK fs k f' d' hd',xok:=λ_=>hx,own:=PassesOwn.leaving,stk:=rfl,fr:=rfl,fn:=λ_=>rfl } hm;have:=hr.un;show(A.deeper _).units+200<cLine
   omega
abbrev hU (K:W.Frag)(n:Nat):Sp:=λvs H Q _=>∃ (a:Addr) (ns:List Int),vs=[.ref a]/\aV K H a (ns.map V.int)/\ns.length<=n/\∀ H',Q (.bl true) H'
variable {P:Program}
def vn {w:World}{H:Hp}{s:Shared}{e:Value}{s':Shared}(h:vJ P w [] H s (λ_ _=>False) e s'):False:=by
 obtain⟨e,H',C,dx,fs,T,_,_,_,_,_,_,_,_,_,q⟩:=h;exact q
variable {K:W.Frag}{fd:FuncData}{ps:List Str}
def A6 (h:Binds K fd ps []):∀ j:Nat,∃ ds,Binds K fd ps ds/\Vals (([]:List V).drop j) ds:=λj=>⟨[],h,by simp;exact .nil⟩
def xO {ds:List Value}{T:Addr}{o:Obj}{items:Array Value}{c n:Nat}(hd:fd.defaults=.ref T)(ho:K.lookup T=some o)(hs:o.data=.seq items c)(hn:n+ds.length=ps.length)
  (h:∀ us:List Value,us.length=n->∃ k:Option (Array Value)->Sem (List (Str×Value)),bindArgs fd ⟨us,[]⟩=seqItems? fd.defaults >>= k/\k (some items)=pure (ps.zip (us++ds))):Binds K fd ps ds:=λs us X hl=>by
 obtain⟨k,h1,h2⟩:=h us (by rw[db]at hl;omega);exact W.binds_K X hd ho hs h1 h2
def jW:∀ {vs:List V}{us:List Value}(j:Nat),Vals vs us->Vals (vs.drop j) (us.drop j)
 |_,_,0,h=>h
 |_,_,j+1,.nil=>by simp;exact .nil
 |_::_,_::_,j+1,.cons _ h=>by simpa using jW j h
def oO {α β:Type} [BEq α] [LawfulBEq α] {x:α}{y:β}:∀ {l:List (α×β)},l.lookup x=some y->(x,y) ∈ l
 | [],h=>by simp at h
 |(a,b)::l,h=>by
  rw[lookup_cons]at h;cases e:x ==a with
  |true=>
   rw[e]at h;have:=beq_iff_eq.mp e;subst this
   injection h with h
   subst h;exact lw
  |false=>
   rw[e]at h;exact f8 _ (oO h)
def jm {α β:Type} [BEq α] [LawfulBEq α] {P:α->β->Prop}{l:List (α×β)}(h:∀ p ∈ l,P p.1 p.2):∀ x y,l.lookup x=some y->P x y:=λx y e=>h (x,y) (oO e)
def fX {α β γ:Type} [BEq α] [LawfulBEq α] [BEq β] [LawfulBEq β] {P:α->β->γ->Prop}{l:List ((α×β)×γ)}(h:∀ p ∈ l,P p.1.1 p.1.2 p.2):∀ x y z,l.lookup (x,y)=some z->P x y z:=λx y z e=>h ((x,y),z) (oO e)
def gE {α:Type} [BEq α] [LawfulBEq α] {P:α->Prop}{l:List α}(h:∀ p ∈ l,P p):∀ x,l.contains x=true->P x:=λx e=>h x (by simpa using e)
def x9 {α β:Type} [BEq α] [LawfulBEq α] [BEq β] [LawfulBEq β] {P:α->β->Prop}{l:List (α×β)}(h:∀ p ∈ l,P p.1 p.2):∀ x y,l.contains (x,y)=true->P x y:=λx y e=>h (x,y) (by simpa using e)
abbrev pN (P:Nat->aH->Prop):Nat->List aH->Prop
 |_,[]=>True
 |n,d::r=>P n d/\pN P (n+1) r
def zZ {P:Nat->aH->Prop}:∀ {l:List aH}{n:Nat},pN P n l->∀ f d,l[f]? =some d->P (n+f) d
 | [],_,_,f,d,e=>by simp at e
 |a::l,n,h,0,d,e=>by
  have:a=d:=by simpa using e
  subst this;exact h.1
 |a::l,n,h,f+1,d,e=>by
  have:=zZ h.2 f d (by simpa using e)
  rwa [Nat.add_assoc,Nat.add_comm 1 f]at this
def og {P:Nat->aH->Prop}{l:List aH}(h:pN P 0 l):∀ f d,l[f]? =some d->P f d:=λf d e=>by
 have:=zZ h f d e
 rwa [Nat.zero_add]at this
def B6 {w:World}{mg:HE}{base:Heap}{T:Tab}{R:Rt}(tab:yh K mg T R)(hK:R.K=K)(fs:∀ f d,T.fns[f]? =some d->sr K T (R.fad f) d) (k fl:Nat) (d:aH) (hd:T.fns[fl]? =some d)
  {oc:Value}{od:Option Addr}{osl:Array (Option Value)}(lk:K.lookup (R.fad fl)=some ⟨oc,od,.func fd,osl⟩) (h:∀ vs H Q E,hU K 63 vs H Q E->cA T R k fl vs H Q E):cF P w K mg base (vJ P w) (2*k) (R.fad fl) fd d.ps (hU K 63):=
 ((v7 tab hK fs k fl d hd).own _ _ _ _ lk).imp h
end L3
namespace L3
open PySem L2
abbrev kQ:HO->HO
 | .lst _=>.lst []
 | .dK _=>.dK []
 | .dT _=>.dT []
 | .kn _ (.dK _)=>.dK []
 | .ins C dx _=>.ins C dx []
 | .exc C _ _ _=>.exc C none [] false
 |o=>o
abbrev jN (H H':Hp):Prop:=∀ a o,H a=some o->∃ o',H' a=some o'/\kQ o'=kQ o
def jN.tup {H H':Hp}(g:jN H H'){t:Addr}{xs:List V}(h:H t=some (.tup xs)):H' t=some (.tup xs):=by
 obtain⟨o',h1,h2⟩:=g t _ h;have key:∀ u:HO,kQ u=.tup xs->u=.tup xs:=λu=>by cases u<;>intro e<;>first|exact e|cases e|(rename_i v;cases v<;>cases e)
 rw[key o' h2]at h1;exact h1
variable {H:Hp}{a:Addr}{xs:List V}
def FJ (e:H a=some (.lst xs)):tyName (.ref a) H=some "list":=by
 show(match H a with|some (.lst _)=>some "list"|some (.tup _)=>some "tuple"|some (.dK _)=>some "dict"|some (.kn _ (.dK _))=>some "dict"|_=>none)=_;rw[e]
def jN.upd {o o':HO}(h:H a=some o)(e:kQ o'=kQ o):jN H (L2.upd H a o'):=λb u hb=>by
 by_cases z:b=a
 .subst z;rw[h]at hb;cases hb;exact⟨o',aA,e⟩
 .exact⟨u,(af z).trans hb,rfl⟩
def jN.new {o':HO}(h:H a=none):jN H (L2.upd H a o'):=λb u hb=>⟨u,(af λz=>by rw[z,h]at hb;cases hb).trans hb,rfl⟩
structure ar where
 p:Hp->(Addr->Prop)->Prop
 st:∀ H H' D,p H D->(∀ a,D a->H' a=H a)->jN H H'->p H' D
 up:∀ H D D',p H D->(∀ a,D a->D' a)->p H D'
abbrev pt (a:Addr)(o:HO):ar:=⟨λH D=>D a/\H a=some o,λH H' D h k _=>⟨h.1,(k a h.1).trans h.2⟩,λH D D' h k=>⟨k a h.1,h.2⟩⟩
abbrev tu (t:Addr)(xs:List V):ar:=⟨λH _=>H t=some (.tup xs),λH H' D h _ k=>k.tup h,λH D D' h _=>h⟩
abbrev pu (φ:Prop):ar:=⟨λ_ _=>φ,λ_ _ _ h _ _=>h,λ_ _ _ h _=>h⟩
variable {α:Type}
abbrev ex (f:α->ar):ar:=⟨λH D=>∃ x,(f x).p H D,λH H' D ⟨x,h⟩ k t=>⟨x,(f x).st H H' D h k t⟩,λH D D' ⟨x,h⟩ k=>⟨x,(f x).up H D D' h k⟩⟩
abbrev oy (A B:ar):ar:=⟨λH D=>∃ D1 D2:Addr->Prop,(∀ a,D1 a->D a)/\(∀ a,D2 a->D a)/\(∀ a,D1 a->D2 a->False)/\A.p H D1/\B.p H D2,
 λH H' D ⟨D1,D2,s1,s2,dj,h1,h2⟩ k t=>⟨D1,D2,s1,s2,dj,A.st H H' D1 h1 (λa z=>k a (s1 a z)) t,B.st H H' D2 h2 (λa z=>k a (s2 a z)) t⟩,
 λH D D' ⟨D1,D2,s1,s2,dj,h1,h2⟩ k=>⟨D1,D2,λa z=>k a (s1 a z),λa z=>k a (s2 a z),dj,h1,h2⟩⟩
abbrev aX:List ar->Hp->(Addr->Prop)->Prop
 | [],_,_=>True
 |A::O,H,D=>∃ D1 D2:Addr->Prop,(∀ a,D1 a->D a)/\(∀ a,D2 a->D a)/\(∀ a,D1 a->D2 a->False)/\A.p H D1/\aX O H D2
abbrev Sep (O:List ar)(H:Hp):Prop:=∃ D:Addr->Prop,(∀ a,D a->H a≠none)/\aX O H D
inductive au (A:ar):List ar->List ar->Prop where
 |e {O:List ar}:au A (A::O) O
 |t {B:ar}{O Γ':List ar}(h:au A O Γ'):au A (B::O) (B::Γ')
variable {g:List ar}
section
variable {A B:ar}{O Γ':List ar}{H H':Hp}{a b p t:Addr}{o o':HO}{xs:List V}{φ:Prop}
def aX.st:∀ {O:List ar}{H H':Hp}{D:Addr->Prop},aX O H D->(∀ a,D a->H' a=H a)->jN H H'->aX O H' D
 | [],_,_,_,_,_,_=>True.intro
 |A::O,H,H',D,⟨D1,D2,s1,s2,dj,h1,h2⟩,k,t=>⟨D1,D2,s1,s2,dj,A.st H H' D1 h1 (λa z=>k a (s1 a z)) t,aX.st h2 (λa z=>k a (s2 a z)) t⟩
def aX.up:∀ {O:List ar}{H:Hp}{D D':Addr->Prop},aX O H D->(∀ a,D a->D' a)->aX O H D'
 | [],_,_,_,_,_=>True.intro
 |A::O,H,D,D',⟨D1,D2,s1,s2,dj,h1,h2⟩,k=>⟨D1,D2,λa z=>k a (s1 a z),λa z=>k a (s2 a z),dj,h1,h2⟩
def Sep.nil:Sep [] H:=⟨λ_=>False,λ_ z=>z.elim,True.intro⟩
def aX.pull:∀ {O Γ':List ar}{D:Addr->Prop},au A O Γ'->aX O H D->aX (A::Γ') H D:=by
 intro O Γ' D h
 induction h generalizing D with
 |e=>exact λz=>z
 |t h ih=>
  rintro⟨D1,D2,s1,s2,dj,h1,h2⟩;obtain⟨E1,E2,t1,t2,ej,k1,k2⟩:=ih h2;refine⟨E1,λa=>D1 a\/E2 a,λa z=>s2 a (t1 a z),λa z=>z.elim (s1 a) λz=>s2 a (t2 a z),λa z1 z2=>?_,k1,D1,E2,λa z=>.inl z,λa z=>.inr z,λa z1 z2=>dj a z1 (t2 a z2),h1,k2⟩;rcases z2 with z2|z2
  .exact dj a z2 (t1 a z1)
  .exact ej a z1 z2
def Sep.pull (h:au A O Γ')(s:Sep O H):Sep (A::Γ') H:=let⟨D,k,z⟩:=s;⟨D,k,aX.pull h z⟩
def aX.push:∀ {O Γ':List ar}{D:Addr->Prop},au A O Γ'->aX (A::Γ') H D->aX O H D:=by
 intro O Γ' D h
 induction h generalizing D with
 |e=>exact λz=>z
 |t h ih=>
  rintro⟨D1,D2,s1,s2,dj,h1,E1,E2,t1,t2,ej,k1,k2⟩;refine⟨E1,λa=>D1 a\/E2 a,λa z=>s2 a (t1 a z),λa z=>z.elim (s1 a) λz=>s2 a (t2 a z),λa z1 z2=>?_,k1,ih ⟨D1,E2,λa z=>.inl z,λa z=>.inr z,λa z1 z2=>dj a z1 (t2 a z2),h1,k2⟩⟩;rcases z2 with z2|z2
  .exact dj a z2 (t1 a z1)
  .exact ej a z1 z2
def Sep.push (h:au A O Γ')(s:Sep (A::Γ') H):Sep O H:=let⟨D,k,z⟩:=s;⟨D,k,aX.push h z⟩
def Sep.drop (s:Sep (A::O) H):Sep O H:=let⟨D,k,D1,D2,s1,s2,dj,h1,h2⟩:=s;⟨D2,λa z=>k a (s2 a z),h2⟩
def Sep.at (s:Sep (pt a o::O) H):H a=some o:=let⟨D,k,D1,D2,s1,s2,dj,h1,h2⟩:=s;h1.2
def Sep.atT (s:Sep (tu t xs::O) H):H t=some (.tup xs):=let⟨D,k,D1,D2,s1,s2,dj,h1,h2⟩:=s;h1
def Sep.pure (s:Sep (pu φ::O) H):φ:=let⟨D,k,D1,D2,s1,s2,dj,h1,h2⟩:=s;h1
def Sep.Fw (h:φ)(s:Sep O H):Sep (pu φ::O) H:=let⟨D,k,h2⟩:=s;⟨D,k,λ_=>False,D,λ_ z=>z.elim,λ_ z=>z,λ_ z _=>z,h,h2⟩
def Sep.EJ (h:H t=some (.tup xs))(s:Sep O H):Sep (tu t xs::O) H:=let⟨D,k,h2⟩:=s;⟨D,k,λ_=>False,D,λ_ z=>z.elim,λ_ z=>z,λ_ z _=>z,h,h2⟩
def Sep.ne (s:Sep (pt a o::pt b o'::O) H):a≠b:=by
 obtain⟨D,k,D1,D2,s1,s2,dj,h1,E1,E2,t1,t2,ej,k1,k2⟩:=s;rintro rfl;exact dj a h1.1 (t1 a k1.1)
def Sep.set (s:Sep (pt a o::O) H)(n:kQ o'=kQ o):Sep (pt a o'::O) (upd H a o'):=by
 obtain⟨D,k,D1,D2,s1,s2,dj,h1,h2⟩:=s;refine⟨D,λb z=>?_,D1,D2,s1,s2,dj,⟨h1.1,aA⟩,aX.st h2 (λb z=>af λe=>dj a h1.1 (e▸z)) (jN.upd h1.2 n)⟩
 by_cases e:b=a
 .rw[e,aA];exact λz=>by cases z
 .rw[af e];exact k b z
def Sep.new (s:Sep O H)(h:H p=none):Sep (pt p o::O) (upd H p o):=by
 obtain⟨D,k,z⟩:=s;have ne:∀ b,D b->b≠p:=λb hb e=>k b hb (e▸h)
 refine⟨λb=>b=p\/D b,λb hb=>?_,λb=>b=p,D,λb e=>.inl e,λb e=>.inr e,λb e z=>ne b z e,⟨rfl,aA⟩,aX.st z (λb hb=>af (ne b hb)) (jN.new h)⟩;rcases hb with rfl|hb
 .rw[aA];exact λz=>by cases z
 .rw[af (ne b hb)];exact k b hb
def Sep.oz (s:Sep O H)(h:H p=none):Sep (tu p xs::O) (upd H p (.tup xs)):=Sep.EJ aA (Sep.drop (s.new (o:=.tup xs) h))
def Sep.toT (s:Sep (pt t (.tup xs)::O) H):Sep (tu t xs::O) H:=Sep.EJ s.at s.drop
def Sep.star:Sep (oy A B::O) H ↔ Sep (A::B::O) H:=by
 constructor
 .rintro⟨D,k,D1,D2,s1,s2,dj,⟨E1,E2,t1,t2,ej,k1,k2⟩,h2⟩;refine⟨D,k,E1,λa=>E2 a\/D2 a,λa z=>s1 a (t1 a z),λa z=>z.elim (λz=>s1 a (t2 a z)) (s2 a),λa z1 z2=>?_,k1,E2,D2,λa z=>.inl z,λa z=>.inr z,λa z1 z2=>dj a (t2 a z1) z2,k2,h2⟩;rcases z2 with z2|z2
  .exact ej a z1 z2
  .exact dj a (t1 a z1) z2
 .rintro⟨D,k,D1,D2,s1,s2,dj,h1,E1,E2,t1,t2,ej,k1,k2⟩;refine⟨D,k,λa=>D1 a\/E1 a,E2,λa z=>z.elim (s1 a) λz=>s2 a (t1 a z),λa z=>s2 a (t2 a z),λa z1 z2=>?_,⟨D1,E1,λa z=>.inl z,λa z=>.inr z,λa z1 z2=>dj a z1 (t1 a z2),h1,k1⟩,k2⟩;rcases z1 with z1|z1
  .exact dj a z1 (t2 a z2)
  .exact ej a z1 z2
def Sep.FF {f:α->ar}:Sep (ex f::O) H ↔ ∃ x,Sep (f x::O) H:=by
 constructor
 .rintro⟨D,k,D1,D2,s1,s2,dj,⟨x,h1⟩,h2⟩;exact⟨x,D,k,D1,D2,s1,s2,dj,h1,h2⟩
 .rintro⟨x,D,k,D1,D2,s1,s2,dj,h1,h2⟩;exact⟨D,k,D1,D2,s1,s2,dj,⟨x,h1⟩,h2⟩
def Sep.get (s:Sep O H)(h:au (pt a o) O Γ'):H a=some o:=(s.pull h).at
def Sep.DX (s:Sep O H)(h:au (tu t xs) O Γ'):H t=some (.tup xs):=(s.pull h).atT
inductive dn (A B:ar):List ar->List ar->Prop where
 |e {O:List ar}:dn A B (A::O) (B::O)
 |t {C:ar}{O Γ':List ar}(h:dn A B O Γ'):dn A B (C::O) (C::Γ')
def au.k1 {b:ar}:au A (b::A::g) (b::g):=.t .e
def au.k2 {b c:ar}:au A (b::c::A::g) (b::c::g):=.t .k1
def au.k3 {b c d:ar}:au A (b::c::d::A::g) (b::c::d::g):=.t .k2
def dn.k1 {b:ar}:dn A B (b::A::g) (b::B::g):=.t .e
def dn.k2 {b c:ar}:dn A B (b::c::A::g) (b::c::B::g):=.t .k1
def dn.qv (h:dn A B O Γ'):∃ Δ,au A O Δ/\au B Γ' Δ:=by
 induction h with
 |e=>exact⟨_,.e,.e⟩
 |t h ih=>
  obtain⟨Δ,h1,h2⟩:=ih;exact⟨_,.t h1,.t h2⟩
def Sep.put (s:Sep O H)(h:dn (pt a o) (pt a o') O Γ')(n:kQ o'=kQ o):Sep Γ' (upd H a o'):=by
 obtain⟨Δ,h1,h2⟩:=h.qv;exact((s.pull h1).set n).push h2
inductive Sub:List ar->List ar->Prop where
 |refl {O:List ar}:Sub O O
 |nil {O:List ar}:Sub [] O
 |cons {A:ar}{O Γ' Δ:List ar}(h:au A O Δ) (r:Sub Γ' Δ):Sub (A::Γ') O
 |drop {A:ar}{O Γ':List ar}(r:Sub Γ' O):Sub Γ' (A::O)
def aX.sub:∀ {O Γ':List ar}{D:Addr->Prop},Sub Γ' O->aX O H D->aX Γ' H D:=by
 intro O Γ' D h
 induction h generalizing D with
 |refl=>exact λz=>z
 |nil=>exact λ_=>True.intro
 |cons h r ih=>
  intro z;obtain⟨D1,D2,s1,s2,dj,h1,h2⟩:=aX.pull h z;exact⟨D1,D2,s1,s2,dj,h1,ih h2⟩
 |drop r ih=>
  rintro⟨D1,D2,s1,s2,dj,h1,h2⟩;exact(ih h2).up s2
def Sep.sub (h:Sub Γ' O)(s:Sep O H):Sep Γ' H:=let⟨D,k,z⟩:=s;⟨D,k,aX.sub h z⟩
end
@[irreducible] noncomputable def ae (T:Tab) (R:Rt) (k f:Nat):Sp:=cA T R k f
def nN:ae=cA:=by
 funext T R k f
 unfold ae
 rfl
variable {Q:VK}
def wc {T:Tab}{R:Rt}{k f:Nat}{d:aH}{vs:List V}{E:XK}(hk:0<k)(hd:T.fns[f]? =some d)(hl:vs.length=d.ps.length)
  (h:wB d.body ⟨T,R,ae T R (k-1),true⟩ { nx:=λ_ H'=>Q .non H',rt:=Q } (λ_=>E) (start d.N vs) H):ae T R k f vs H Q E:=by
 rw[nN]at h⊢;cases k with
 |zero=>exact absurd hk (by decide)
 |succ k=>
  show(match T.fns[f]? with|some d=>_|none=>False);rw[hd];exact⟨hl,h⟩
variable {c:Bool}
def vX {A B:Prop}(h1:c=true->A)(h2:c=false->B):gY c A B:=by
 unfold gY;cases c
 .exact h2 rfl
 .exact h1 rfl
def aY {A B:Prop}(h:c=true)(h1:A):gY c A B:=by subst h;unfold gY;exact h1
def aL {A B:Prop}(h:c=false)(h1:B):gY c A B:=by subst h;unfold gY;exact h1
def BC {A B:Prop}(h:gY c B A):gY (!c) A B:=by
 unfold gY at h⊢;cases c
 .exact h
 .exact h
def bK {p:Prop} [Decidable p] {A B:Prop}(h1:p->A)(h2:¬ p->B):gY (decide p) A B:=vX (λh=>h1 (of_decide_eq_true h)) λh=>h2 (of_decide_eq_false h)
def gQ {i j:Int}{A B:Prop}(h1:i=j->A)(h2:i≠j->B):gY (jy (.int i) (.int j)) A B:=by
 show gY (i ==j) A B;exact vX (λh=>h1 (by simpa using h)) λh=>h2 (by simpa using h)
variable {dx:Addr}{n:Nat}{fs:List (Str×V)}{es:List V}{R:It->Hp->Prop}
section
variable {K:W.Frag}{G:Gx}{O Γ':List ar}{H:Hp}{Q:VK}{a p:Addr}{o:HO}{xs ys:List V}{v w:V}{i:Int}{f:Str}
def al (s:Sep O H)(h:∀ p H',Sep (pt p o::O) H'->Q (.ref p) H'):∀ p,H p=none->Q (.ref p) (upd H p o):=λp hp=>h p _ (s.new hp)
def bX {C x:Addr}(s:Sep O H)(h1:H x=none)(h2:H dx=none)(h3:dx≠x):Sep (pt x (.ins C dx [])::pt dx (.own x)::O) (upd (upd H dx (.own x)) x (.ins C dx [])):=(s.new h2).new (by rw[af h3.symm];exact h1)
def pw {dx:Option Addr}{E:XK}(s:Sep O H)(r:dn (pt a (.exc (G.R.cad n) dx fs true)) (pt a (.exc (G.R.cad n) dx fs false)) O Γ')(ho:G.T.xc.contains n=true)(h:∀ H',Sep Γ' H'->E a H'):
  ∃ b i dx fs,V.ref a=.ref b/\H b=some (.exc (G.R.cad i) dx fs true)/\G.T.xc.contains i=true/\E b (upd H b (.exc (G.R.cad i) dx fs false)):=by
 obtain⟨Δ,h1,h2⟩:=r.qv;exact⟨a,n,dx,fs,rfl,s.get h1,ho,h _ (s.put r rfl)⟩
def fc (s:Sep O H)(hl:es.length<=10000)(h:∀ p H',Sep (pt p (.lst es)::O) H'->Q (.ref p) H'):yG es H Q:=by unfold yG;exact⟨hl,al s h⟩
def n8 (s:Sep O H)(hl:es.length<=10000)(h:∀ p H',Sep (pt p (.tup es)::O) H'->Q (.ref p) H'):oz es H Q:=by unfold oz;exact⟨hl,al s h⟩
def mN {xs:List α}{j:Nat}{x:α}(h:xs[j]? =some x):iB xs (0+(j:Int))=some x:=by rw[Int.zero_add];exact L2.qB h
def eX (e:H a=some (.lst xs))(hv:iB xs i=some v)(q:Q v H):wF K (.ref a) (.int i) H Q:=by unfold wF;exact .inl ⟨xs,i,v,rfl,.inl (aV.of e),hv,q⟩
def aB (e:H a=some (.tup xs))(hv:iB xs i=some v)(q:Q v H):wF K (.ref a) (.int i) H Q:=by unfold wF;exact .inl ⟨xs,i,v,rfl,.inr (cM.of e),hv,q⟩
def EI {R:Hp->Prop}{j:Nat}(s:Sep O H)(r:dn (pt a (.lst xs)) (pt a (.lst ys)) O Γ')(hj:uF xs.length i=some j)(hx:xs.set j v=ys)(h:∀ H',Sep Γ' H'->R H'):sF (.ref a) (.int i) v H R:=by
 obtain⟨Δ,h1,h2⟩:=r.qv;subst hx;unfold sF;exact .inl ⟨xs,i,j,rfl,s.get h1,hj,h _ (s.put r rfl)⟩
def D8 (e:H a=some (.lst xs))(h0:0<=i)(hv:xs[i.toNat]? =some v)(q:Q v H):vQ K (.ref a) (.int i) H Q:=by unfold vQ;exact⟨xs,v,aV.of e,h0,hv,q⟩
def ak (e:H a=some (.ins (G.R.cad n) dx fs))(ho:G.T.oc.contains n=true)(hn:G.T.na.contains (n,f)=true)(hl:fs.lookup f=some v)(q:Q v H):mh G f (.ref a) H Q:=by unfold mh;exact⟨a,n,fs,v,rfl,.inl ⟨ho,dx,e⟩,hn,hl,q⟩
def BU {fs':List (Str×V)}{R:Hp->Prop}(s:Sep O H)(r:dn (pt a (.ins (G.R.cad n) dx fs)) (pt a (.ins (G.R.cad n) dx fs')) O Γ')(ho:G.T.oc.contains n=true)(hn:G.T.na.contains (n,f)=true)(hl:fs.length<1000)(hf:cw f v fs=fs')(h:∀ H',Sep Γ' H'->R H'):wC G f (.ref a) v H R:=by
 obtain⟨Δ,h1,h2⟩:=r.qv;subst hf;unfold wC;exact⟨a,n,rfl,hn,.inl ⟨dx,fs,ho,s.get h1,hl,h _ (s.put r rfl)⟩⟩
def Dc {fr:Bool}{R:Hp->Prop}(s:Sep (pt a (.exc (G.R.cad n) none [] fr)::O) H)(ho:G.T.xc.contains n=true)(hn:G.T.na.contains (n,f)=true)(h:∀ d H',Sep (pt a (.exc (G.R.cad n) (some d) [(f,v)] fr)::pt d (.own a)::O) H'->R H'):wC G f (.ref a) v H R:=by
 unfold wC;refine⟨a,n,rfl,hn,.inr (.inr ⟨fr,ho,s.at,λd hd=>h d _ ?_⟩)⟩;exact((s.new (o:=.own a) hd).pull (.t .e)).set rfl
def j6 {n t:String}{b:Bool}(ht:tyName v H=some t)(hb:G.T.subB.lookup (t,n)=some b)(q:Q (.bl b) H):jE G (.ty n) v H Q:=by unfold jE;exact .inl ⟨t,b,ht,hb,q⟩
def cE {j:Nat}{b:Bool}(e:H a=some (.ins (G.R.cad j) dx fs))(ho:G.T.oc.contains j=true)(hb:G.T.sub.lookup (j,n)=some b)(q:Q (.bl b) H):jE G (.own n) (.ref a) H Q:=by unfold jE;exact .inr ⟨a,j,b,rfl,.inl ⟨ho,dx,fs,e⟩,hb,q⟩
def c7 (e:H a=some (.lst xs))(q:Q (.int xs.length) H):jJ G .len [.ref a] H Q:=by unfold jJ;exact⟨_,xs.length,rfl,.inl ⟨xs,aV.of e,rfl⟩,q⟩
def aU (s:Sep O H)(e:H a=some (.lst xs))(h:∀ p H',Sep (pt p (.lst xs)::O) H'->Q (.ref p) H'):jJ G .list [.ref a] H Q:=by unfold jJ;exact .inl ⟨_,xs,rfl,.inl (aV.of e),al s h⟩
def u6 (s:Sep O H){b:Addr}(e1:H a=some (.lst xs))(e2:H b=some (.lst ys))(hl:xs.length+ys.length<=100000)(h:∀ p H',Sep (pt p (.lst (xs++ys))::O) H'->Q (.ref p) H'):yR K a b H Q:=by unfold yR;exact .inl ⟨xs,ys,e1,e2,hl,al s h⟩
def jh {y:V}(s:Sep O H)(r:dn (pt a (.lst xs)) (pt a (.lst (xs++[y]))) O Γ')(hl:xs.length<=10000)(h:∀ H',Sep Γ' H'->Q .non H'):t6 .append a xs [y] H Q:=by unfold t6;exact⟨_,rfl,hl,h _ (s.put r rfl)⟩
def F3 {lo hi:Option Int}(s:Sep O H)(e:aV K H a xs)(h:∀ p H',Sep (pt p (.lst (ij xs lo hi))::O) H'->Q (.ref p) H'):tJ K (.ref a) lo hi H Q:=by unfold tJ;exact .inl ⟨xs,e,al s h⟩
def AU (e:H a=some (.lst xs))(h:R (C2 K a) H):oB K a H R:=by unfold oB;exact .inl ⟨⟨xs,aV.of e⟩,h⟩
def EL (e:H a=some (.lst xs))(h:R (Er a) H):wR a H R:=by unfold wR;exact⟨⟨xs,e⟩,h⟩
def Fp {lo hi:Option Int}(s:Sep O H)(e:H a=some (.lst xs))(h:∀ p H',Sep (pt p (.lst (ij xs lo hi))::O) H'->Q (.ref p) H'):tJ K (.ref a) lo hi H Q:=by unfold tJ;exact .inl ⟨xs,aV.of e,al s h⟩
end
variable {x:V}
section
variable {K:W.Frag}{H:Hp}{Q:VK}
def cG (f:aM x=true):jy x x=true:=by
 cases x<;>simp[aM]at f<;>simp[jy]
def b6 {y:V}(fx:aM x=true)(fy:aM y=true)(q:Q (.bl (jy x y)) H):eh K false x y H Q:=by unfold eh;exact .inr ⟨0,_,.flat fx fy,by decide,.inl fx,q⟩
def rg {y:V}(fx:aM x=true)(fy:aM y=true)(q:Q (.bl (!jy x y)) H):eh K true x y H Q:=by unfold eh;exact .inr ⟨0,_,.flat fx fy,by decide,.inl fx,q⟩
def lO {b:Addr}(h:iA K H n (.ref a) (.ref b) c)(hn:n<=100)(ne:a≠b)(q:Q (.bl c) H):eh K false (.ref a) (.ref b) H Q:=by unfold eh;exact .inr ⟨n,c,h,hn,.inr (.inl λz=>ne (V.ref.inj z)),q⟩
def k8 {b:Addr}(h:iA K H n (.ref a) (.ref b) c)(hn:n<=100)(ne:a≠b)(q:Q (.bl (!c)) H):eh K true (.ref a) (.ref b) H Q:=by unfold eh;exact .inr ⟨n,c,h,hn,.inr (.inl λz=>ne (V.ref.inj z)),q⟩
def wg {t:String}(h:tyName x H=some t):iA K H (n+1) x x true:=by
 have key:aM x=true->iA K H (n+1) x x true:=λf=>by
  have:=iA.flat (K:=K) (H:=H) (n:=n+1) f f
  rwa [cG f]at this
 cases x<;>first|exact key rfl|exact .same _|(cases h)
def all_true (n:Nat):(List.range n).all (λ_=>true)=true:=by simp
def uE {b:Addr}(h1:H a=some (.lst xs))(h2:H b=some (.lst xs))(h:∀ x ∈ xs,∃ t,tyName x H=some t):iA K H (n+2) (.ref a) (.ref b) true:=by
 have:=iA.ll (K:=K) (n:=n) (e:=λ_=>true) (aV.of h1) (aV.of h2) rfl λj x y e1 e2=>by
  rw[e1]at e2;cases e2;obtain⟨t,ht⟩:=h x (dl e1);exact wg ht
 rwa [all_true]at this
end
variable {K:W.Frag}{rest:St}{te:TE}
section
variable {D:Ends}{F:(St->Hp->Prop)->V->St->Hp->Prop}{U:St}{H:Hp}
def lS {lo:Int}(I:Nat->St->Hp->Prop)(h0:I 0 U H)(hs:∀ j U H,j<n->I j U H->F (I (j+1)) (.int (lo+j)) U H) (hd:∀ U H,I n U H->D.nx U H):nB (C3 lo n) D F U H:=by
 unfold nB;refine⟨λi m U H=>m=n-i/\i<=n/\I i U H,⟨n,by simp,Nat.zero_le _,h0⟩,λi m U H ⟨e,hi,h⟩=>?_⟩
 by_cases hlt:i<n
 .refine .inr ⟨hlt,I (i+1),λσ' H' h'=>⟨n-(i+1),by omega,rfl,hlt,h'⟩,λx H' y=>?_⟩;obtain⟨rfl,rfl⟩:=y;exact hs i U H' hlt h
 .have:i=n:=by omega
  subst this;exact .inl ⟨s0 _,hd U H h⟩
def qE (I:Nat->St->Hp->Prop)(h0:I 0 U H)(hl:∀ j U H,I j U H->aV K H a xs)
  (hs:∀ j x U H,xs[j]? =some x->I j U H->F (I (j+1)) x U H) (hd:∀ U H,I xs.length U H->D.nx U H):nB (C2 K a) D F U H:=by
 unfold nB;refine⟨λi m U H=>m=xs.length-i/\i<=xs.length/\I i U H,⟨xs.length,by simp,Nat.zero_le _,h0⟩,λi m U H ⟨e,hi',h⟩=>?_⟩
 by_cases hlt:i<xs.length
 .refine .inr ⟨⟨xs,xs[i],hl i U H h,lv hlt⟩,I (i+1),λσ' H' h'=>⟨xs.length-(i+1),by omega,rfl,hlt,h'⟩,λx H' y=>?_⟩;obtain⟨rfl,hy⟩:=y;exact hs i x U H' (hy xs (hl i U H' h)) h
 .have:i=xs.length:=by omega
  subst this;exact .inl ⟨⟨xs,hl _ U H h,s0 _⟩,hd U H h⟩
def yc (I:Nat->St->Hp->Prop)(h0:I 0 U H)(hl:∀ j U H,I j U H->H a=some (.lst xs)) (hs:∀ j x T U H,xs[j]? =some x->I j U H->H T=none->F (I (j+1)) (.ref T) U (upd H T (.tup [.int j,x])))
  (hd:∀ U H,I xs.length U H->D.nx U H):nB (Er a) D F U H:=by
 unfold nB;refine⟨λi m U H=>m=xs.length-i/\i<=xs.length/\I i U H,⟨xs.length,by simp,Nat.zero_le _,h0⟩,λi m U H ⟨e,hi',h⟩=>?_⟩
 by_cases hlt:i<xs.length
 .refine .inr ⟨⟨xs,xs[i],hl i U H h,lv hlt⟩,I (i+1),λσ' H' h'=>⟨xs.length-(i+1),by omega,rfl,hlt,h'⟩,λx H' y=>?_⟩;obtain⟨T,z,hT,rfl,rfl,hy⟩:=y;exact hs i z T U H (hy xs (hl i U H h)) h hT
 .have:i=xs.length:=by omega
  subst this;exact .inl ⟨⟨xs,hl _ U H h,s0 _⟩,hd U H h⟩
@[irreducible] noncomputable def oY (I:Addr->List V->Hp->Prop) (D:Addr) (ys:List V) (rest:St) (x:Option V):VK:=λv H3=>∃ zs,H3 D=some (.lst zs)/\zs.length<ce/\∃ ys2 x2,x::rest=x2::rest/\ys2.length=ys.length+1/\I D ys2 (upd H3 D (.lst (zs++[v])))
def oY.mk {I:Addr->List V->Hp->Prop}{D:Addr}{ys:List V}{x:Option V}{v:V}{H3:Hp}(h1:H3 D=some (.lst ys))(hl:ys.length<=999)(h2:I D (ys++[v]) (upd H3 D (.lst (ys++[v])))):oY I D ys rest x v H3:=
 by unfold oY;exact⟨ys,h1,cO nofun,ys++[v],x,rfl,by simp,h2⟩
def o5 (hn:n<=1000)(I:Addr->List V->Hp->Prop)(h0:∀ D,H D=none->I D [] (upd H D (.lst [])))
  (hs:∀ D ys H',ys.length<n->I D ys H'->te (some (.int (0+(ys.length:Nat)))::rest) H' (oY I D ys rest (some (.int (0+(ys.length:Nat))))))
  (hd:∀ D ys H',ys.length=n->I D ys H'->Q (.ref D) H'):tL te (C3 0 n) (none::rest) H Q:=by
 unfold tL;intro D hD;refine⟨λi m σ' H'=>m=n-i/\i<=n/\∃ ys x0,σ'=x0::rest/\ys.length=i/\I D ys H',⟨n,by simp,Nat.zero_le _,[],none,rfl,rfl,h0 D hD⟩,λi m σ' H' ⟨e,hi,ys,x0,e1,e2,h⟩=>?_⟩;subst e1 e2
 by_cases hlt:ys.length<n
 .refine .inr ⟨hlt,λσ2 H2=>∃ ys2 x2,σ2=x2::rest/\ys2.length=ys.length+1/\I D ys2 H2,λσ2 H2 ⟨ys2,x2,f1,f2,f3⟩=>⟨n-(ys.length+1),by omega,rfl,hlt,ys2,x2,f1,f2,f3⟩,λx H'' y=>?_⟩;obtain⟨e1,e2⟩:=y;subst e1 e2;have z:=hs D ys H'' hlt h;unfold oY at z;exact z
 .have:ys.length=n:=by omega
  exact .inl ⟨Nat.le_of_eq this.symm,hd D ys H' this h⟩
def CS (hn:xs.length<=1000)(I:Addr->List V->Hp->Prop)(hl:∀ D ys H,I D ys H->aV K H a xs) (h0:∀ D,H D=none->I D [] (upd H D (.lst [])))
  (hs:∀ D ys x H',xs[ys.length]? =some x->I D ys H'->te (some x::rest) H' (oY I D ys rest (some x)))
  (hd:∀ D ys H',ys.length=xs.length->I D ys H'->Q (.ref D) H'):tL te (C2 K a) (none::rest) H Q:=by
 unfold tL;intro D hD;refine⟨λi m σ' H'=>m=xs.length-i/\i<=xs.length/\∃ ys x0,σ'=x0::rest/\ys.length=i/\I D ys H',⟨xs.length,by simp,Nat.zero_le _,[],none,rfl,rfl,h0 D hD⟩,λi m σ' H' ⟨e,hi,ys,x0,e1,e2,h⟩=>?_⟩;subst e1 e2
 by_cases hlt:ys.length<xs.length
 .refine .inr ⟨⟨xs,xs[ys.length],hl D ys H' h,lv hlt⟩,λσ2 H2=>∃ ys2 x2,σ2=x2::rest/\ys2.length=ys.length+1/\I D ys2 H2,λσ2 H2 ⟨ys2,x2,f1,f2,f3⟩=>⟨xs.length-(ys.length+1),by omega,rfl,hlt,ys2,x2,f1,f2,f3⟩,λx H'' y=>?_⟩;obtain⟨e1,hy⟩:=y;subst e1;have z:=hs D ys x H'' (hy xs (hl D ys H'' h)) h;unfold oY at z;exact z
 .have:ys.length=xs.length:=by omega
  exact .inl ⟨⟨xs,hl D ys H' h,Nat.le_of_eq this.symm⟩,hd D ys H' this h⟩
def o8 {K:W.Frag}{G:Gx}{bs:List Bool}(hc:G.cm=true)(e:H a=some (.lst (bs.map V.bl)))(q:Q (.bl (bs.all id)) H):jJ G .all [.ref a] H Q:=by unfold jJ;exact⟨hc,_,bs,rfl,aV.of e,q⟩
def pA (q:Q (.bl (decide (x=.non))) H):wD false x .non H Q:=by unfold wD;exact q
def bD (q:Q (.bl (!decide (x=.non))) H):wD true x .non H Q:=by unfold wD;exact q
def Fg (e:cM K H a xs)(fx:aM x=true)(fs:xs.all aM=true)(q:Q (.bl (Ai x xs)) H):wZ K false x (.ref a) H Q:=by unfold wZ;exact .inl ⟨xs,.inr e,fx,fs,q⟩
end
variable {z:Str}
section
variable {K:W.Frag}{G:Gx}{O Γ':List ar}{H:Hp}{Q:VK}{a b:Addr}{xs ys:List V}{v:V}
def D0 (e:cM K H a xs)(h:R (CY K a) H):oB K a H R:=by unfold oB;exact .inr (.inl ⟨⟨xs,e⟩,h⟩)
def BE {C:Addr}(s:Sep O H)(h:∀ x dx H',Sep (pt x (.ins C dx [])::pt dx (.own x)::O) H'->Q (.ref x) H'):sD C H Q:=by unfold sD;exact λx dx h1 h2 h3=>h x dx _ (bX s h1 h2 h3)
def Dg {lo hi:Option Int}(s:Sep O H)(e:H a=some (.tup xs))(hw:¬ (HT.aS xs.length 0 lo=0/\HT.aS xs.length xs.length hi=xs.length))(h:∀ p H',Sep (pt p (.tup (ij xs lo hi))::O) H'->Q (.ref p) H'):tJ K (.ref a) lo hi H Q:=by unfold tJ;exact .inr ⟨a,xs,rfl,cM.of e,hw,al s h⟩
def DM {lo hi:Option Int}(hz:z.length<=100000)(q:Q (.str (iK z lo hi)) H):tJ K (.str z) lo hi H Q:=by unfold tJ;exact⟨z,rfl,hz,q⟩
def xB {n:Int}(hn:PySem.intText? z=some n)(hl:z.length<=640)(q:Q (.int n) H):jJ G .int [.str z] H Q:=by unfold jJ;exact .inr ⟨z,n,rfl,hn,hl,q⟩
def uB {y:Str}(s:Sep O H)(hy:(y.length ==0)=false)(hz:z.length<=100000)(q:∀ p H',Sep (pt p (.lst ((Txt.split z y).map V.str))::O) H'->Q (.ref p) H'):yD K .split z (.str y) H Q:=by unfold yD pI;exact⟨z,y,rfl,rfl,hy,hz,al s q⟩
def kr {y:Str}(q:Q (.bl (Txt.startswith z y)) H):yD K .starts z (.str y) H Q:=by unfold yD lF;exact⟨z,y,rfl,rfl,q⟩
def iy {G:Gx}{zs:List Str}(e:H a=some (.lst (zs.map V.str)))(hw:(zs.map (·.length)).sum+zs.length<=1000000)(hz:z.length<=16)(q:Q (.str (Txt.join z zs)) H):yD K .join z (.ref a) H Q:=by unfold yD rJoin;exact⟨z,a,zs,rfl,rfl,aV.of e,hw,hz,q⟩
def F8 {c:Nat}{i:Int}(hz:z.length<=100000)(hv:iB z.cps.toList i=some c)(q:Q (.str ⟨#[c]⟩) H):wF K (.str z) (.int i) H Q:=by unfold wF;exact⟨i,c,rfl,hz,hv,q⟩
def u9 (hn:z.cps.size<=1000)(I:Addr->List V->Hp->Prop)(h0:∀ D,H D=none->I D [] (upd H D (.lst [])))
  (hs:∀ D ys c H',z.cps[ys.length]? =some c->I D ys H'->te (some (.str ⟨#[c]⟩)::rest) H' (oY I D ys rest (some (.str ⟨#[c]⟩))))
  (hd:∀ D ys H',ys.length=z.cps.size->I D ys H'->Q (.ref D) H'):tL te (AY z) (none::rest) H Q:=by
 unfold tL;intro D hD;refine⟨λi m σ' H'=>m=z.cps.size-i/\i<=z.cps.size/\∃ ys x0,σ'=x0::rest/\ys.length=i/\I D ys H',⟨z.cps.size,by simp,Nat.zero_le _,[],none,rfl,rfl,h0 D hD⟩,λi m σ' H' ⟨e,hi,ys,x0,e1,e2,h⟩=>?_⟩;subst e1 e2
 by_cases hlt:ys.length<z.cps.size
 .refine .inr ⟨hlt,λσ2 H2=>∃ ys2 x2,σ2=x2::rest/\ys2.length=ys.length+1/\I D ys2 H2,λσ2 H2 ⟨ys2,x2,f1,f2,f3⟩=>⟨z.cps.size-(ys.length+1),by omega,rfl,hlt,ys2,x2,f1,f2,f3⟩,λx H'' y=>?_⟩;obtain⟨e1,c,hc,rfl⟩:=y;subst e1;have w:=hs D ys c H'' hc h;unfold oY at w;exact w
 .have:ys.length=z.cps.size:=by omega
  exact .inl ⟨Nat.le_of_eq this.symm,hd D ys H' this h⟩
end
end L3
namespace L3
open PySem PySem.Spec PySem.W L2
variable {ps:List Str}
def vU:∀ {us:List Value}{n:Str},us.length=ps.length->n ∈ ps->((ps.zip us).lookup n).isNone=false:=by
 induction ps with
 |nil=>intro us n _ h;cases h
 |cons p ps ih=>
  intro us n hl h;cases us with
  |nil=>cases hl
  |cons u us=>
   rw[zip_cons_cons,lookup_cons];cases e:n ==p with
   |true=>rfl
   |false=>
    rcases mo.mp h with rfl|h
    .rw[beq_self_eq_true]at e;cases e
    .exact ih (Nat.succ.inj hl) h
def om:∀ {ps:List Str}{us:List Value},ps.Nodup->us.length=ps.length->∀ {L:List (Str×Value)},(∀ n ∈ ps,L.lookup n=(ps.zip us).lookup n)->ps.filterMap (λn=>(L.lookup n).map (n,·))=ps.zip us
 | [],us,_,_,L,_=>rfl
 |p::ps,[],_,hl,L,_=>by cases hl
 |p::ps,u::us,nd,hl,L,hL=>by
  have h0:L.lookup p=some u:=by rw[hL p lw,zip_cons_cons,lookup_cons,beq_self_eq_true]
  rw[filterMap_cons,h0,zip_cons_cons];show(p,u)::_=_;rw[om (nodup_cons.mp nd).2 (Nat.succ.inj hl) (L:=L)];intro n hn;rw[hL n (f8 _ hn),zip_cons_cons,lookup_cons];have:(n ==p)=false:=by
   cases e:n ==p with
   |false=>rfl
   |true=>
    have:=beq_iff_eq.mp e;subst this;exact absurd hn (nodup_cons.mp nd).1
  rw[this]
variable {fd:FuncData}
def nG (nd:ps.Nodup)(h1:fd.params.posonlyargs=[])(h2:fd.params.args.map (·.arg)=ps)(h3:fd.params.kwonlyargs=[])(h4:fd.params.vararg=none)(h5:fd.params.kwarg=none)(h6:fd.defaults=.none)(us:List Value)(hl:us.length=ps.length):
  bindArgs fd ⟨us,[]⟩=pure (ps.zip us):=by
 obtain⟨name,qual,⟨po,as,va,ko,kd,ka,df⟩,body,scope,glo,cP,dV,kV,doc,pm,an,cdv,ct,bu⟩:=fd;dsimp only at h1 h2 h3 h4 h5 h6;subst h1 h2 h3 h4 h5 h6;generalize hps:as.map (·.arg)=ps at nd hl⊢;have e1:seqItems? (Value.none)=(pure none:Sem (Option (Array Value))):=rfl;have e2:∀ f:Str->Bool,(∀ n ∈ ps,f n=false)->ps.filter f=[]:=λf h=>List.filter_eq_nil_iff.mpr λa ha=>by rw[h a ha];decide
 have e3:¬ (us.length>ps.length):=by omega
 have e4:=e2 (λn=>((ps.zip us).lookup n).isNone) λn hn=>vU hl hn
 have e5:=om nd hl (L:=ps.zip us) λ_ _=>rfl
 unfold bindArgs;dsimp only[List.map_nil,nil_append,append_nil];rw[hps];simp[e1,e3,e4,e5]
abbrev gD (S:List (Str×Value))(x:Str×Value):List (Str×Value):=if(S.lookup x.1).isNone=true then S++[x] else S
def zC:∀ {L:List (Str×Value)}{S:List (Str×Value)},(∀ x ∈ L,(S.lookup x.1).isNone=false)->L.foldl gD S=S
 | [],_,_=>rfl
 |x::L,S,h=>by
  have h0:gD S x=S:=by
   unfold gD;rw[if_neg (by rw[h x lw];decide)]
  rw[foldl_cons,h0];exact zC λy hy=>h y (f8 _ hy)
def zK:∀ {L:List (Str×Value)}{S:List (Str×Value)},(L.map (·.1)).Nodup->(∀ x ∈ L,S.lookup x.1=none)->L.foldl gD S=S++L
 | [],S,_,_=>by rw[append_nil];rfl
 |x::L,S,nd,h=>by
  have h0:gD S x=S++[x]:=by
   unfold gD;rw[if_pos (by rw[h x lw];rfl)]
  rw[map_cons]at nd;rw[foldl_cons,h0,zK (nodup_cons.mp nd).2]
  .rw[li];rfl
  .intro y hy;have hne:(y.1 ==x.1)=false:=by
    cases e:y.1 ==x.1 with
    |false=>rfl
    |true=>
     have e:=beq_iff_eq.mp e;exact absurd (List.mem_map_of_mem (f:=(·.1)) hy) (e▸(nodup_cons.mp nd).1)
   obtain⟨a,b⟩:=x;rw[List.lookup_append,h y (f8 _ hy),lookup_cons,hne]
   rfl
def zR {n:Str}:∀ {L:List (Str×Value)},(∀ x ∈ L,x.1≠n)->L.lookup n=none
 | [],_=>rfl
 |(a,b)::L,h=>by
  have:(n ==a)=false:=by
   cases e:n ==a with
   |false=>rfl
   |true=>exact absurd (beq_iff_eq.mp e).symm (h (a,b) lw)
  rw[lookup_cons,this];exact zR λx hx=>h x (f8 _ hx)
variable {A:List Str}{B:List Value}
def kK {x:Str×Value}(h:x ∈ A.zip B):x.1 ∈ A:=by
 obtain⟨a,b⟩:=x;exact(of_mem_zip h).1
def zip_map (h:A.length<=B.length):(A.zip B).map (·.1)=A:=List.map_fst_zip h
def ly {B:List Str}{us:List Value}(h:A.length=us.length):(A++B).zip us=A.zip us:=by
 have:=zip_append (l₁:=A) (l₂:=us) (r₁:=B) (r₂:=[]) h;rw[append_nil,List.zip_nil_right,append_nil]at this;exact this
def yN {B:List Str}{us D1 D2:List Value}(nd:(A++B).Nodup)(h1:A.length=us.length)(h2:B.length=D2.length)(h3:D1.length<=A.length):
  (((A++B).drop (A.length-D1.length)).zip (D1++D2)).foldl gD ((A++B).zip us)=(A++B).zip (us++D2):=by
 have a:=zC (L:=(A.drop (A.length-D1.length)).zip D1) (S:=(A++B).zip us) λx hx=>by
  rw[ly h1];exact vU h1.symm (List.mem_of_mem_drop (kK hx))
 have b:=zK (L:=B.zip D2) (S:=(A++B).zip us) (by rw[zip_map nofun];exact(List.nodup_append.mp nd).2.1) λx hx=>by
  refine zR λy hy e=>?_
  rw[ly h1]at hy;exact(List.nodup_append.mp nd).2.2 y.1 (kK hy) x.1 (kK hx) e
 rw[List.drop_append_of_le_length nofun,zip_append (by rw[lf];omega),List.foldl_append,a,b,ly h1,zip_append h1]
def vy {us ds:List Value}(nd:ps.Nodup)(h1:us.length<=ps.length)(h2:ds.length<=ps.length)(h3:ps.length<=us.length+ds.length):
  ((ps.drop (ps.length-ds.length)).zip ds).foldl gD (ps.zip us)=ps.zip (us++ds.drop (us.length+ds.length-ps.length)):=by
 have nd2:(ps.take us.length++ps.drop us.length).Nodup:=by rw[take_append_drop];exact nd
 have:=yN (A:=ps.take us.length) (B:=ps.drop us.length) (us:=us) (D1:=ds.take (us.length+ds.length-ps.length)) (D2:=ds.drop (us.length+ds.length-ps.length)) nd2 (by rw[dL];omega) (by rw[lf,lf];omega) (by rw[dL,dL];omega);rw[take_append_drop,take_append_drop,dL,dL]at this;rw[show min us.length ps.length-min (us.length+ds.length-ps.length) ds.length=ps.length-ds.length by omega]at this;exact this
def mj:∀ {L:List (Str×Value)}{S:List (Str×Value)},(forIn L S λx r=>(match x with|(name,d)=>if(r.lookup name).isNone=true then pure (ForInStep.yield (r++[(name,d)])) else pure (ForInStep.yield r):Sem (ForInStep (List (Str×Value)))))=pure (L.foldl gD S)
 | [],S=>by simp
 |(a,b)::L,S=>by
  rw[forIn_cons,foldl_cons,<-mj];unfold gD
  by_cases e:(S.lookup a).isNone=true
  .simp only[e,if_true,pure_bind]
  .simp only[e,if_false,pure_bind,Bool.false_eq_true]
def uY {T:Addr}{items:Array Value}(nd:ps.Nodup)(h1:fd.params.posonlyargs=[])(h2:fd.params.args.map (·.arg)=ps)(h3:fd.params.kwonlyargs=[])(h4:fd.params.vararg=none)(h5:fd.params.kwarg=none)(h6:fd.defaults=.ref T)(us:List Value)(l1:us.length<=ps.length)(l2:items.toList.length<=ps.length)(l3:ps.length<=us.length+items.toList.length):
  ∃ k:Option (Array Value)->Sem (List (Str×Value)),bindArgs fd ⟨us,[]⟩=seqItems? fd.defaults >>= k/\k (some items)=pure (ps.zip (us++items.toList.drop (us.length+items.toList.length-ps.length))):=by
 obtain⟨name,qual,⟨po,as,va,ko,kd,ka,df⟩,body,scope,glo,cP,dV,kV,doc,pm,an,cdv,ct,bu⟩:=fd;dsimp only at h1 h2 h3 h4 h5 h6;subst h1 h2 h3 h4 h5 h6;generalize hps:as.map (·.arg)=ps at nd l1 l2 l3⊢;have e2:∀ f:Str->Bool,(∀ n ∈ ps.take (ps.length-items.toList.length),f n=false)->(ps.take (ps.length-items.toList.length)).filter f=[]:=λf h=>List.filter_eq_nil_iff.mpr λa ha=>by rw[h a ha];decide
 have e3:¬ (us.length>ps.length):=by omega
 have ez:ps.zip us=(ps.take us.length).zip us:=by
  have:=ly (A:=ps.take us.length) (B:=ps.drop us.length) (us:=us) (by rw[dL];omega);rw[take_append_drop]at this;exact this
 have e4:=e2 (λn=>((ps.zip us).lookup n).isNone) λn hn=>by
  rw[ez];refine vU (by rw[dL];omega) ?_;have:ps.take (ps.length-items.toList.length)=(ps.take us.length).take (ps.length-items.toList.length):=by rw[List.take_take,Nat.min_eq_left nofun]
  rw[this]at hn;exact List.mem_of_mem_take hn
 have e6:=vy (us:=us) (ds:=items.toList) nd l1 l2 l3;have e5:=om (us:=us++items.toList.drop (us.length+items.toList.length-ps.length)) nd (by rw[db,lf];omega) λ_ _=>rfl
 have e7:items.toList.length-ps.length=0:=by omega
 unfold bindArgs;dsimp only[List.map_nil,nil_append,append_nil];rw[hps];refine⟨_,rfl,?_⟩;simp only[Option.getD_some,List.map_nil,nil_append,e7,drop_zero,e4,e3,List.isEmpty_nil,Bool.not_true,decide_false,Bool.false_and,Bool.false_eq_true,if_false,forIn_nil,append_nil];rw[mj,e6,pure_bind,pure_bind];simp only[e5,List.isEmpty_nil,Bool.not_true,Bool.false_eq_true,if_false]
abbrev zS (x:Option (Option Value))(a:Addr):Bool:=match x with
 |some (some (.ref b))=>b ==a
 |_=>false
variable {x:Option (Option Value)}
def eO {a:Addr}(h:zS x a=true):x=some (some (.ref a)):=by
 unfold zS at h
 split at h
 .rw[beq_iff_eq.mp h]
 .cases h
abbrev qO (x:Option (Option Value))(a:String):Bool:=match x with
 |some (some (.builtin b))=>b ==a
 |_=>false
variable {a:String}
def bW (h:qO x a=true):x=some (some (.builtin a)):=by
 unfold qO at h
 split at h
 .rw[beq_iff_eq.mp h]
 .cases h
abbrev Fz (x:Option Value)(a:String):Bool:=match x with
 |some (.type b)=>b ==a
 |_=>false
def Ct {x:Option Value}(h:Fz x a=true):x=some (.type a):=by
 unfold Fz at h
 split at h
 .rw[beq_iff_eq.mp h]
 .cases h
abbrev uL (x:Option (Option Value)):Bool:=match x with
 |some none=>true
 |_=>false
def lR (h:uL x=true):x=some none:=by
 unfold uL at h
 split at h
 .rfl
 .cases h
abbrev yb (x:Option Bool)(b:Bool):Bool:=match x with
 |some c=>c ==b
 |none=>false
def dA {x:Option Bool}{b:Bool}(h:yb x b=true):x=some b:=by
 unfold yb at h
 split at h
 .rw[beq_iff_eq.mp h]
 .cases h
abbrev Fb (v:V)(x:Option (Option Value)):Bool:=match v,x with
 | .int i,some (some (.int j _))=>i ==j
 | .str s,some (some (.str s' _))=>s ==s'
 | .ref a,y=>zS y a
 |_,_=>false
def Ci {v:V}(h:Fb v x=true):∃ u,x=some (some u)/\RelV v u:=by
 unfold Fb at h
 split at h
 .rw[<-beq_iff_eq.mp h];exact⟨_,rfl,_,rfl⟩
 .rw[<-beq_iff_eq.mp h];exact⟨_,rfl,_,rfl⟩
 .rw[eO h];exact⟨_,rfl,rfl⟩
 .cases h
section
variable (K:Frag) (C:Addr)
abbrev ya:Bool:=plainGet K C Str.empty&&(hasDictIn K C&&(plainOver K C&&qO (findIn K (.ref C) "__setattr__") "object.__setattr__"))
def qP {K:Frag}{C:Addr}(h:ya K C=true):xm K C:=by
 unfold ya at h;simp only[nb]at h;exact⟨h.1,h.2.1,h.2.2.1,bW h.2.2.2⟩
abbrev zr:Bool:=qO (findIn K (.ref C) "__class__") "object.__class__"&&(qO (specialIn K (.builtin "object.__class__") "__get__") "getset_descriptor.__get__"&&yb (takesIn K (.builtin "object.__class__")) true)
abbrev mU:Bool:=Fz (typeIn K (.ref C)) "type"&&((clsIn K C).any (λcd=>cY cd.mro)&&(hasDictIn K C&&(qO (findIn K (.ref C) "__getattribute__") "BaseException.__getattribute__"&&(uL (findIn K (.ref C) "__getattr__")&&qO (findIn K (.ref C) "__setattr__") "object.__setattr__"))))
def jk {K:Frag}{C:Addr}(h:mU K C=true):bY K C:=by
 unfold mU at h;simp only[nb]at h;exact⟨Ct h.1,h.2.1,h.2.2.1,bW h.2.2.2.1,lR h.2.2.2.2.1,bW h.2.2.2.2.2⟩
end
abbrev all2 {α:Type}(l:List α)(p:α->Bool):Bool:=match l with
 | []=>true
 |a::r=>p a&&all2 r p
def aC {α:Type}{p:α->Bool}:∀ {l:List α},all2 l p=true->∀ a ∈ l,p a=true
 | [],_,_,h=>by cases h
 |a::r,h,b,hb=>by
  unfold all2 at h;rw[nb]at h;rcases mo.mp hb with rfl|hb
  .exact h.1
  .exact aC h.2 b hb
abbrev CQ (K:Frag)(fs cs:List Addr)(gs:List (Str×V)):Rt:=⟨K,λi=>fs.getD i 0,λi=>cs.getD i 0,λx=>gs.lookup x⟩
section
variable (K:Frag) (T:Tab) (fs cs:List Addr) (gs:List (Str×V))
abbrev yP:Bool:=
 (all2 T.gfn (λp=>zS (nsIn K mainGlobals p.1) (fs.getD p.2 0)&&(keepIn K (.ref (fs.getD p.2 0))&&(T.fns[p.2]?).isSome))&&
 (all2 T.gcl (λp=>zS (nsIn K mainGlobals p.1) (cs.getD p.2 0))&&
 (all2 T.gbl (λx=>uL (nsIn K mainGlobals x)&& !(x ==("__name__":Str)))&&
 (all2 T.gbi (λx=>match nsIn K mainGlobals x with
  |some (some (.ref B))=>qO (specialIn K (.ref B) "__getattribute__") "type.__getattribute__"&&(readsIn K B (.type "type")&&(match findCls K (.ref B) (.type "type") "__init__" with|some (.val (.builtin n))=>n =="ValueError.__init__"|_=>false))
  |_=>false)&&
 (all2 gs (λp=>Fb p.2 (nsIn K mainGlobals p.1))&&
 (all2 T.na (λp=>uL (findIn K (.ref (cs.getD p.1 0)) p.2))&&
 (all2 T.me (λp=>ya K (cs.getD p.1.1 0)&&(zS (findIn K (.ref (cs.getD p.1.1 0)) p.1.2) (fs.getD p.2 0)&&(isFn K (.ref (fs.getD p.2 0))&&(keepIn K (.ref (fs.getD p.2 0))&&(T.fns[p.2]?).isSome)))))))))))&&
 (all2 T.ini0 (λc=>bG K (cs.getD c 0)&&(qO (findIn K (.ref (cs.getD c 0)) "__init__") "ValueError.__init__"&&(keepIn K (.ref (cs.getD c 0))&&mU K (cs.getD c 0))))&&
 (all2 T.inip (λc=>makesIn K (cs.getD c 0)&&(qO (findIn K (.ref (cs.getD c 0)) "__init__") "object.__init__"&&keepIn K (.ref (cs.getD c 0))))&&
 (all2 T.ini (λp=>(T.fns[p.2]?).isSome&&((if T.xc.contains p.1=true then bG K (cs.getD p.1 0) else makesIn K (cs.getD p.1 0))&&(zS (findIn K (.ref (cs.getD p.1 0)) "__init__") (fs.getD p.2 0)&&(isFn K (.ref (fs.getD p.2 0))&&keepIn K (.ref (cs.getD p.1 0))))))&&
 (all2 T.oc (λc=>ya K (cs.getD c 0)&&(zr K (cs.getD c 0)&&yb (mroIn K (cs.getD c 0) (.type "object")) true))&&
 (all2 T.xc (λc=>mU K (cs.getD c 0)&&zr K (cs.getD c 0))&&
 (all2 T.sub (λp=>yb (kitOne K (.ref (cs.getD p.1.1 0)) (.ref (cs.getD p.1.2 0))) p.2&&(!T.xc.contains p.1.1||(yb (mroIn K (cs.getD p.1.1 0) (.ref (cs.getD p.1.2 0))) p.2&&mU K (cs.getD p.1.2 0))))&&
 (all2 T.subT (λp=>yb (kitOne K (.ref (cs.getD p.1.1 0)) (.type p.1.2)) p.2)&&
 (all2 T.subB (λp=>yb (kitOne K (.type p.1.1) (.type p.1.2)) p.2)&&
 (all2 T.subO (λp=>yb (kitOne K (.type p.1.1) (.ref (cs.getD p.1.2 0))) p.2)&&
  all2 T.cin (λp=>qO (specialIn K (.ref (cs.getD p.1 0)) "__getattribute__") "type.__getattribute__"&&(readsIn K (cs.getD p.1 0) (.type "type")&&((match findCls K (.ref (cs.getD p.1 0)) (.type "type") "__init__" with|some (.val (.ref f))=>f ==fs.getD p.2 0|_=>false)&&(keepIn K (.ref (fs.getD p.2 0))&&(T.fns[p.2]?).isSome)))))))))))))
end
def iD {α:Type}{x:Option α}(h:x.isSome=true):∃ d,x=some d:=Option.isSome_iff_exists.mp h
variable {K:Frag}{T:Tab}{fs:List Addr}{gs:List (Str×V)}{mg:HE}
def yi {cs:List Addr}{h:Heap}(X:K.In h)(G:h.Ns mainGlobals mg)(z:yP K T fs cs gs=true):yh K mg T (CQ K fs cs gs):=by
 unfold yP at z;simp only[nb]at z;obtain⟨⟨z1,z2,z3,z4,z5,z6,z7⟩,z8,z9,z10,z11,z12,z13,z14,z15,z16,z17⟩:=z;exact {
  gfn:=jm λp hp=>by
   have:=aC z1 p hp;simp only[nb]at this;exact⟨mg_of X G (eO this.1),this.2.1,iD this.2.2⟩
  gcl:=jm λp hp=>mg_of X G (eO (aC z2 p hp))
  gbl:=gE λx hx=>by
   have:=aC z3 x hx;simp only[nb]at this;exact⟨mg_none_of X G (lR this.1),by simpa using this.2⟩
  gbi:=gE λx hx=>by
   have:=aC z4 x hx
   split at this
   .rename_i B e;simp only[nb]at this;refine⟨B,mg_of X G e,bW this.1,this.2.1,?_⟩;have t:=this.2.2
    split at t
    .rename_i n e2;rw[e2,beq_iff_eq.mp t]
    .cases t
   .cases this
  gl:=jm λp hp=>by
   obtain⟨u,e,r⟩:=Ci (aC z5 p hp);exact⟨u,mg_of X G e,r⟩
  na:=x9 λp hp=>lR (aC z6 p hp)
  me:=fX λp hp=>by
   have:=aC z7 p hp;simp only[nb]at this;exact⟨qP this.1,⟨eO this.2.1,this.2.2.1,this.2.2.2.1⟩,iD this.2.2.2.2⟩
  ini0:=gE λc hc=>by
   have:=aC z8 c hc;simp only[nb]at this;exact⟨this.1,bW this.2.1,this.2.2.1,jk this.2.2.2⟩
  inip:=gE λc hc=>by
   have:=aC z9 c hc;simp only[nb]at this;exact⟨this.1,bW this.2.1,this.2.2⟩
  ini:=jm λp hp=>by
   have:=aC z10 p hp;simp only[nb]at this;refine⟨iD this.1,?_⟩;have t:=this.2
   by_cases e:T.xc.contains p.1=true
   .rw[if_pos e]at t⊢;exact⟨t.1,eO t.2.1,t.2.2.1,t.2.2.2⟩
   .rw[if_neg e]at t⊢;exact⟨t.1,eO t.2.1,t.2.2.1,t.2.2.2⟩
  oc:=gE λc hc=>by
   have:=aC z11 c hc;simp only[zr,nb]at this;exact⟨qP this.1,bW this.2.1.1,bW this.2.1.2.1,dA this.2.1.2.2,dA this.2.2⟩
  xc:=gE λc hc=>by
   have:=aC z12 c hc;simp only[zr,nb]at this;exact⟨jk this.1,bW this.2.1,bW this.2.2.1,dA this.2.2.2⟩
  sub:=fX λp hp=>by
   have:=aC z13 p hp;simp only[nb]at this;refine⟨dA this.1,λe=>?_⟩;have t:=this.2;rw[e,Bool.not_true,Bool.false_or,nb]at t;exact⟨dA t.1,jk t.2⟩
  subT:=fX λp hp=>dA (aC z14 p hp)
  subB:=fX λp hp=>dA (aC z15 p hp)
  subO:=fX λp hp=>dA (aC z16 p hp)
  cin:=jm λp hp=>by
   have:=aC z17 p hp;simp only[nb]at this;refine⟨⟨bW this.1,this.2.1,?_,this.2.2.2.1⟩,iD this.2.2.2.2⟩;have t:=this.2.2.1
   split at t
   .rename_i f e2;rw[beq_iff_eq.mp t]at e2;exact e2
   .cases t }
abbrev ER:List Str->Bool
 | []=>true
 |a::r=>!r.contains a&&ER r
def uO:∀ {l:List Str},ER l=true->l.Nodup
 | [],_=>List.nodup_nil
 |a::r,h=>by
  unfold ER at h;rw[nb]at h;exact nodup_cons.mpr ⟨by simpa using h.1,uO h.2⟩
abbrev Ff (N P:List Str)(sc:Scope):Bool:=decide (sc.kind=.function)&&(!sc.isCoroutine&&(!sc.isGenerator&&(ER N&&(N.take P.length ==P&&(all2 P (λx=>match sc.names.lookup x with|some .local=>true|some .cell=>true|_=>false)&&all2 sc.names (λy=>match y.2 with| .free=>false|_=>true))))))
def oH {N P:List Str}{sc:Scope}(h:Ff N P sc=true):iz N P sc:=by
 unfold Ff at h;simp only[nb,decide_eq_true_eq]at h;refine⟨h.1,by simpa using h.2.1,by simpa using h.2.2.1,uO h.2.2.2.1,beq_iff_eq.mp h.2.2.2.2.1,λx hx=>?_,λy hy e=>?_⟩
 .have:=aC h.2.2.2.2.2.1 x hx
  split at this
  .rename_i e;exact .inl e
  .rename_i e;exact .inr e
  .cases this
 .have:=aC h.2.2.2.2.2.2 y hy;rw[e]at this;cases this
abbrev FW:V->Value->Bool
 | .non,.none=>true
 | .bl b,.bool c=>b ==c
 | .int i,.int j _=>i ==j
 | .str s,.str s' _=>s ==s'
 |_,_=>false
def A0 {v:V}{u:Value}(h:FW v u=true):RelV v u:=by
 unfold FW at h
 split at h
 .rfl
 .rw[beq_iff_eq.mp h];rfl
 .rw[beq_iff_eq.mp h];exact⟨_,rfl⟩
 .rw[beq_iff_eq.mp h];exact⟨_,rfl⟩
 .cases h
abbrev ur:List V->List Value->Bool
 | [],[]=>true
 |v::vs,u::us=>FW v u&&ur vs us
 |_,_=>false
def lA:∀ {vs:List V}{us:List Value},ur vs us=true->Vals vs us
 | [],[],_=>.nil
 |v::vs,u::us,h=>by
  unfold ur at h;rw[nb]at h;exact .cons (A0 h.1) (lA h.2)
 | [],_::_,h=>by cases h
 |_::_,[],h=>by cases h
abbrev Fo (K:Frag)(fd:FuncData)(d:aH):Bool:=match fd.defaults with
 | .none=>d.dfl.isEmpty
 | .ref T=>!d.dfl.isEmpty&&(match K.lookup T with
  |some o=>(match o.data with| .seq items _=>ur d.dfl items.toList&&decide (items.toList.length<=d.ps.length)|_=>false)
  |none=>false)
 |_=>false
abbrev As (K:Frag)(T:Tab)(f:Addr)(d:aH):Bool:=match K.lookup f with
 |some ⟨_,_,.func fd,_⟩=>(match fd.body with
  | .stmts body=>decide (fd.globals=mainGlobals)&&(fd.closure.isEmpty&&(decide (fd.builtins=builtinsNs)&&(codeIn K fd.code fd.qualname&&(Ff d.N d.ps fd.scope&&(mB ⟨T,fd.scope,d.N⟩ d.body body&&
   (fd.params.posonlyargs.isEmpty&&(fd.params.args.map (·.arg) ==d.ps&&(fd.params.kwonlyargs.isEmpty&&(fd.params.vararg.isNone&&(fd.params.kwarg.isNone&&Fo K fd d))))))))))
  |_=>false)
 |_=>false
variable {d:aH}
def BM {f:Addr}(h:As K T f d=true):sr K T f d:=by
 unfold As at h
 split at h
 .rename_i oc od fd sl e;obtain⟨name,qual,params,body,scope,glo,cP,dV,kV,doc,pm,an,cdv,ct,bu⟩:=fd;dsimp only at h
  split at h
  .rename_i body;simp only[nb,decide_eq_true_eq,isEmpty_iff,Option.isNone_iff_eq_none]at h;obtain⟨h1,h2,h3,h4,h5,h6,h7,h8,h9,h10,h11,h12⟩:=h;subst h1 h2 h3;have S:=oH h5;have nd:d.ps.Nodup:=by
    rw[<-S.pre];exact S.nd.sublist (take_sublist _ _)
   refine⟨⟨name,qual,params,body,scope,dV,kV,doc,pm,cdv,ct,oc,od,an,sl,e,h4,S,h6,?_⟩⟩;unfold Fo at h12;dsimp only at h12
   split at h12
   .rw[isEmpty_iff.mp h12];exact A6 (.all λus hl=>nG nd h7 (beq_iff_eq.mp h8) h9 h10 h11 rfl us hl)
   .rename_i T0;rw[nb]at h12;have h12:=h12.2
    split at h12
    .rename_i o ho
     split at h12
     .rename_i items c hs;rw[nb,decide_eq_true_eq]at h12;intro j;refine⟨items.toList.drop j,?_,jW j (lA h12.1)⟩;refine xO (n:=d.ps.length-(items.toList.drop j).length) rfl ho hs (by rw[lf];omega) λus hl=>?_
      rw[lf]at hl;obtain⟨k,k1,k2⟩:=uY (fd:=fnOf name qual params body scope (.ref T0) kV doc pm an cdv ct) (items:=items) nd h7 (beq_iff_eq.mp h8) h9 h10 h11 rfl us nofun h12.2 nofun;refine⟨k,k1,?_⟩;rw[k2]
      by_cases e:j<=items.toList.length
      .rw[show us.length+items.toList.length-d.ps.length=j by omega]
      .rw[show us.length+items.toList.length-d.ps.length=items.toList.length by omega,List.drop_length,List.drop_eq_nil_of_le (by omega:items.toList.length<=j)]
     .cases h12
    .cases h12
   .cases h12
  .cases h
 .cases h
abbrev jF (K:Frag)(T:Tab)(fs:List Addr):Nat->List aH->Bool
 |_,[]=>true
 |n,d::r=>As K T (fs.getD n 0) d&&jF K T fs (n+1) r
def qF {K:Frag}{T:Tab}{fs:List Addr}:∀ {l:List aH}{n:Nat},jF K T fs n l=true->pN (λf d=>sr K T (fs.getD f 0) d) n l
 | [],_,_=>True.intro
 |d::r,n,h=>by
  unfold jF at h;rw[nb]at h;exact⟨BM h.1,qF h.2⟩
def xZ (h:jF K T fs 0 T.fns=true):∀ f d,T.fns[f]? =some d->sr K T (fs.getD f 0) d:=og (P:=λf d=>sr K T (fs.getD f 0) d) (qF h)
def pQ {K:Frag}{T:Tab}{fs:List Addr}:∀ {l:List aH}{n f:Nat}{d:aH},jF K T fs n l=true->l[f]? =some d->As K T (fs.getD (n+f) 0) d=true
 | [],_,_,_,_,e=>by simp at e
 |a::r,n,0,d,h,e=>by
  unfold jF at h;rw[nb]at h;have:a=d:=by simpa using e
  subst this;exact h.1
 |a::r,n,f+1,d,h,e=>by
  unfold jF at h;rw[nb]at h;have:=pQ h.2 (f:=f) (d:=d) (by simpa using e)
  rwa [Nat.add_assoc,Nat.add_comm 1 f]at this
def xS {fl:Nat}(z:jF K T fs 0 T.fns=true)(hd:T.fns[fl]? =some d)(hp:d.ps=[("_law_script":Str)]) (hf:d.dfl=[]):
  ∃ oc od fd sl,K.lookup (fs.getD fl 0)=some ⟨oc,od,.func fd,sl⟩/\∀ (s:Shared) (v:Value),BindsTo s fd ⟨[v],[]⟩ [("_law_script",v)]:=by
 have h:=pQ z hd;rw[Nat.zero_add]at h;unfold As at h
 split at h
 .rename_i oc od fd sl e;refine⟨oc,od,fd,sl,e,λs v=>?_⟩
  split at h
  .rename_i body hb;simp only[nb,decide_eq_true_eq,isEmpty_iff,Option.isNone_iff_eq_none]at h;obtain⟨h1,h2,h3,h4,h5,h6,h7,h8,h9,h10,h11,h12⟩:=h;have nd:d.ps.Nodup:=by
    rw[<-(oH h5).pre];exact(oH h5).nd.sublist (take_sublist _ _)
   unfold Fo at h12;rw[hf]at h12;have e6:fd.defaults=.none:=by
    split at h12
    .rename_i e;exact e
    .rw[nb]at h12;cases h12.1
    .cases h12
   have:=nG nd h7 (beq_iff_eq.mp h8) h9 h10 h11 e6 [v] (by rw[hp];rfl);rw[hp]at this;exact .of_eq this
  .cases h
 .cases h
def yj {P:Program}{w:World}{h:Heap}{fa:Addr}{cs:List Addr}{fl k:Nat}(X:K.In h)(G:h.Ns mainGlobals mg)(hfa:mg "law"=some (.ref fa))
  (z1:yP K T fs cs gs=true) (z2:jF K T fs 0 T.fns=true) (z3:zS (nsIn K mainGlobals "law") (fs.getD fl 0)=true) (hd:T.fns[fl]? =some d) (hp:d.ps=[("_law_script":Str)]) (hf:d.dfl=[])
  (ht:∀ vs H Q E,hU K 63 vs H Q E->ae T (CQ K fs cs gs) k fl vs H Q E):
  ∃ fd:FuncData,(∀ (s:Shared) (v:Value),BindsTo s fd ⟨[v],[]⟩ [("_law_script",v)])/\∀ base:Heap,K.In base->base.Ns mainGlobals mg->cF P w K mg base (vJ P w) (2*k) fa fd ["_law_script"] (hU K 63):=by
 have e0:fs.getD fl 0=fa:=by
  have e:=hfa.symm.trans (mg_of X G (eO z3))
  injection e with e
  injection e with e
  exact e.symm
 have fn:=xZ z2;have tk:=yi X G z1;have N:=fn fl d hd;have hN:=xS z2 hd;obtain⟨oc,od,fd,sl,e,hb⟩:=hN hp hf;refine⟨fd,hb,λbase hb hg=>?_⟩;have F:=B6 (P:=P) (w:=w) (base:=base) (R:=CQ K fs cs gs) tk rfl fn k fl d hd (fd:=fd) (lk:=e) (nN▸ht);rw[hp]at F;rw[<-e0];exact F
abbrev GF (K:Frag)(a:Addr)(vs:List V):Bool:=match K.lookup a with
 |some ⟨.type t,_,.seq items _,_⟩=>t =="tuple"&&(decide (items.size<=1000)&&ur vs items.toList)
 |_=>false
def BJ {a:Addr}{vs:List V}(h:GF K a vs=true)(H:Hp):cM K H a vs:=by
 unfold GF at h
 split at h
 .rename_i t od items n sl e;simp only[nb,decide_eq_true_eq]at h;refine .inr ⟨_,items,n,e,?_,rfl,?_,lA h.2.2⟩
  .show Value.type t=_;rw[beq_iff_eq.mp h.1]
  .exact Nat.le_of_lt (cO h.2.1)
 .cases h
end L3
namespace L3
open PySem L2
noncomputable abbrev fj.c (e:Ex)(r:fj):fj:=.cons e r
noncomputable abbrev fj.n:fj:=.nil
noncomputable abbrev jo.c (e:Sx)(r:jo):jo:=.cons e r
noncomputable abbrev jo.n:jo:=.nil
noncomputable abbrev wA.c (a b:Nat)(e:jo)(r:wA):wA:=.cons a b e r
noncomputable abbrev wA.n:wA:=.nil
noncomputable abbrev Ex.i (x:Int):Ex:=.int x
noncomputable abbrev Ex.s (x:Str):Ex:=.str x
noncomputable abbrev Ex.k (x:Nat)(e:fj):Ex:=.call x e
noncomputable abbrev Ex.m (a:Ex)(x:Str)(e:fj):Ex:=.meth a x e
noncomputable abbrev Ex.f (c:Tx)(a b:Ex):Ex:=.ife c a b
noncomputable abbrev Ex.q (o:CmpOp)(a b:Ex):Ex:=.cmp o a b
noncomputable abbrev Tx.q (o:CmpOp)(a b:Ex):Tx:=.cmp o a b
noncomputable abbrev Sx.a (x:Nat)(e:Ex):Sx:=.asg x e
noncomputable abbrev Sx.r (e:Ex):Sx:=.ret e
noncomputable abbrev Sx.f (c:Tx)(a b:jo):Sx:=.ife c a b
noncomputable abbrev Sx.e (e:Ex):Sx:=.expr e
end L3
set_option Elab.async false
set_option maxHeartbeats 8000000
open PySem PySem.Spec L2 L3
namespace My
open PySem L2 L3
set_option hygiene false
local macro_rules|`(#[])=>`(.n)|`(#[$x:term])=>`(.c $x .n)|`(#[$x:term,$xs:term,*])=>`(.c $x #[$xs,*])
set_option hygiene true
abbrev fV:aH:=⟨["self","word"],["self","word"],[],#[.e (.bini #[.v 0,.s "a deed can't be made of this"]),.fld (.v 0) "word" (.v 1)]⟩
abbrev cn:aH:=⟨["self","at"],["self","at"],[],#[.e (.bini #[.v 0,.s "a word that can't stand where it stands"]),.fld (.v 0) "at" (.v 1)]⟩
abbrev iP:aH:=⟨["thing"],["thing"],[],#[.r (.and (.isi (.v 0) (.ty "int")) (.not (.isi (.v 0) (.ty "bool"))))]⟩
abbrev mx:aH:=⟨["thing"],["thing"],[],#[.r (.and (.isi (.v 0) (.ty "str")) (.q .In (.v 0) (.gl "NAMES")))]⟩
abbrev gR:aH:=⟨["thing"],["thing"],[],#[.r (.and (.k 2 #[.v 0]) (.cmp2 .LtE .LtE (.neg (.gl "BOUND")) (.v 0) (.gl "BOUND")))]⟩
abbrev gJ:aH:=⟨["word","box"],["word","box"],[],#[.f (.not (.val (.k 3 #[.v 1]))) #[.rais (.make 1 #[.v 0])] .n]⟩
abbrev dM:aH:=⟨["word","number"],["word","number"],[],#[.f (.not (.val (.k 4 #[.v 1]))) #[.rais (.make 1 #[.v 0])] .n]⟩
abbrev dI:aH:=⟨["self","box","number"],["self","box","number"],[],#[.e (.k 5 #[.s "set",.v 1]),.e (.k 6 #[.s "set",.v 2]),.fld (.v 0) "box" (.v 1),.fld (.v 0) "number" (.v 2)]⟩
abbrev gW:aH:=⟨["self"],["self"],[],#[.r (.lst #[.s "set",.fld (.v 0) "box",.bf .str #[.fld (.v 0) "number"]])]⟩
abbrev du:aH:=⟨["self","box","number"],["self","box","number"],[],#[.e (.k 5 #[.s "add",.v 1]),.e (.k 6 #[.s "add",.v 2]),.fld (.v 0) "box" (.v 1),.fld (.v 0) "number" (.v 2)]⟩
abbrev g8:aH:=⟨["self"],["self"],[],#[.r (.lst #[.s "add",.fld (.v 0) "box",.bf .str #[.fld (.v 0) "number"]])]⟩
abbrev c9:aH:=⟨["self","box","other"],["self","box","other"],[],#[.e (.k 5 #[.s "take",.v 1]),.e (.k 5 #[.s "take",.v 2]),.fld (.v 0) "box" (.v 1),.fld (.v 0) "other" (.v 2)]⟩
abbrev fZ:aH:=⟨["self"],["self"],[],#[.r (.lst #[.s "take",.fld (.v 0) "box",.fld (.v 0) "other"])]⟩
abbrev dc:aH:=⟨["self","box"],["self","box"],[],#[.e (.k 5 #[.s "read",.v 1]),.fld (.v 0) "box" (.v 1)]⟩
abbrev fM:aH:=⟨["self"],["self"],[],#[.r (.lst #[.s "read",.fld (.v 0) "box"])]⟩
abbrev cD:aH:=⟨["self","box"],["self","box"],[],#[.e (.k 5 #[.s "write",.v 1]),.fld (.v 0) "box" (.v 1)]⟩
abbrev en:aH:=⟨["self"],["self"],[],#[.r (.lst #[.s "write",.fld (.v 0) "box"])]⟩
abbrev kz:aH:=⟨["thing"],["thing"],[],#[.r (.and (.k 2 #[.v 0]) (.cmp2 .LtE .LtE (.i 0) (.v 0) (.gl "MOST_HOPPED")))]⟩
abbrev qy:aH:=⟨["thing"],["thing"],[],#[.r (.or (.q .Is (.v 0) .non) (.and (.k 2 #[.v 0]) (.or (.q .Eq (.v 0) (.i 0)) (.q .Eq (.v 0) (.i 1)))))]⟩
abbrev dB:aH:=⟨["self","many","on"],["self","many","on"],[.non],#[.f (.or (.not (.val (.k 17 #[.v 1]))) (.not (.val (.k 18 #[.v 2])))) #[.rais (.make 1 #[.s "hop"])] .n,.fld (.v 0) "many" (.v 1),.fld (.v 0) "on" (.v 2)]⟩
abbrev gP:aH:=⟨["self"],["self","told"],[],#[.a 1 (.lst #[.s "hop",.bf .str #[.fld (.v 0) "many"]]),.f (.q .IsNot (.fld (.v 0) "on") .non) #[.e (.lm .extend (.v 1) #[.lst #[.s "if",.bf .str #[.fld (.v 0) "on"]]])] .n,.r (.v 1)]⟩
abbrev eA:aH:=⟨["self","name"],["self","name"],[],#[.fld (.v 0) "called" (.v 1)]⟩
abbrev jS:aH:=⟨["self"],["self"],[],#[.r (.tup #[.s "do",.fld (.v 0) "called"])]⟩
abbrev cK:aH:=⟨["self","many","block"],["self","many","block"],[],#[.fld (.v 0) "many" (.v 1),.fld (.v 0) "block" (.bf .list #[.v 2])]⟩
abbrev cX:aH:=⟨["self"],["self"],[],#[.r (.tup #[.s "times",.fld (.v 0) "many",.bf .list #[.fld (.v 0) "block"]])]⟩
abbrev bL:aH:=⟨["self","on","block","other"],["self","on","block","other"],[.non],#[.fld (.v 0) "on" (.v 1),.fld (.v 0) "block" (.bf .list #[.v 2]),.fld (.v 0) "other" (.f (.q .Is (.v 3) .non) (.lst .n) (.bf .list #[.v 3]))]⟩
abbrev cb:aH:=⟨["self"],["self"],[],#[.r (.tup #[.s "when",.fld (.v 0) "on",.bf .list #[.fld (.v 0) "block"],.bf .list #[.fld (.v 0) "other"]])]⟩
abbrev fL:aH:=⟨["self"],["self"],[],#[.r (.lst #[.s "copy"])]⟩
abbrev fE:aH:=⟨["self"],["self"],[],#[.r (.lst #[.s "fill"])]⟩
abbrev gd:aH:=⟨["self"],["self"],[],#[.r (.lst #[.s "seek"])]⟩
abbrev eE:aH:=⟨["self"],["self"],[],#[.r (.lst #[.s "match"])]⟩
abbrev eo:aH:=⟨["self"],["self"],[],#[.r (.lst #[.s "shift"])]⟩
abbrev fR:aH:=⟨["self"],["self"],[],#[.r (.lst #[.s "turn"])]⟩
abbrev gm:aH:=⟨["thing"],["thing"],[],#[.f (.or (.not (.val (.isi (.v 0) (.ty "str")))) (.not (.cmp2 .LtE .LtE (.i 1) (.bf .len #[.v 0]) (.gl "LONGEST_NAME")))) #[.r (.bl false)] .n,.r (.bf .all #[.lc (.q .In (.v 0) (.gl "LETTERS")) [] (.seq (.v 0))])]⟩
abbrev c5:aH:=⟨["word"],["word","figures"],[],#[.a 1 (.f (.val (.sm .starts (.v 0) (.s "-"))) (.sl (.v 0) (.yes (.i 1)) .no) (.v 0)),.f (.not (.cmp2 .LtE .LtE (.i 1) (.bf .len #[.v 1]) (.gl "MOST_FIGURES"))) #[.r (.bl false)] .n,.f (.not (.val (.bf .all #[.lc (.q .In (.v 0) (.gl "FIGURES")) [] (.seq (.v 1))]))) #[.r (.bl false)] .n,.r (.or (.q .Eq (.v 0) (.s "0")) (.not (.sm .starts (.v 1) (.s "0"))))]⟩
abbrev dU:aH:=⟨["word"],["word"],[],#[.r (.f (.and (.q .IsNot (.v 0) .non) (.val (.k 34 #[.v 0]))) (.bf .int #[.v 0]) .non)]⟩
abbrev b9:aH:=⟨["self","text"],["self","text"],[],#[.f (.not (.val (.isi (.v 1) (.ty "str")))) #[.rais (.make 2 #[.neg (.i 1)])] .n,.fld (.v 0) "queue" (.sm .split (.v 1) (.s " ")),.fld (.v 0) "at" (.i 0)]⟩
abbrev dr:aH:=⟨["self"],["self"],[],#[.r (.f (.q .Lt (.fld (.v 0) "at") (.bf .len #[.fld (.v 0) "queue"])) (.ix (.fld (.v 0) "queue") (.fld (.v 0) "at")) .non)]⟩
abbrev cz:aH:=⟨["self","stands"],["self","stands","word"],[],#[.f (.not (.val (.v 1))) #[.rais (.make 2 #[.fld (.v 0) "at"])] .n,.a 2 (.ix (.fld (.v 0) "queue") (.fld (.v 0) "at")),.augF (.v 0) "at" .Add (.i 1),.r (.v 2)]⟩
abbrev dX:aH:=⟨["self","word"],["self","word"],[],#[.f (.q .NotEq (.m (.v 0) "ahead" .n) (.v 1)) #[.r (.bl false)] .n,.augF (.v 0) "at" .Add (.i 1),.r (.bl true)]⟩
abbrev bU:aH:=⟨["self","word"],["self","word"],[],#[.r (.m (.v 0) "take" #[.q .Eq (.m (.v 0) "ahead" .n) (.v 1)])]⟩
abbrev bV:aH:=⟨["self"],["self"],[],#[.r (.m (.v 0) "take" #[.k 33 #[.m (.v 0) "ahead" .n]])]⟩
abbrev cf:aH:=⟨["self"],["self"],[],#[.r (.m (.v 0) "take" #[.k 3 #[.m (.v 0) "ahead" .n]])]⟩
abbrev bJ:aH:=⟨["self","low","high"],["self","low","high","number"],[],#[.a 3 (.k 35 #[.m (.v 0) "ahead" .n]),.e (.m (.v 0) "take" #[.and (.q .IsNot (.v 3) .non) (.cmp2 .LtE .LtE (.v 1) (.v 3) (.v 2))]),.r (.v 3)]⟩
abbrev dR:aH:=⟨["self"],["self"],[],#[.r (.q .Eq (.fld (.v 0) "at") (.bf .len #[.fld (.v 0) "queue"]))]⟩
abbrev dg:aH:=⟨["self"],["self"],[],#[.f (.not (.val (.m (.v 0) "ended" .n))) #[.rais (.make 2 #[.fld (.v 0) "at"])] .n]⟩
abbrev cN:aH:=⟨["reader"],["reader"],[],#[.f (.val (.m (.v 0) "skips" #[.s "copy"])) #[.r (.mk0 13)] .n,.f (.val (.m (.v 0) "skips" #[.s "fill"])) #[.r (.mk0 14)] .n,.f (.val (.m (.v 0) "skips" #[.s "seek"])) #[.r (.mk0 15)] .n,.f (.val (.m (.v 0) "skips" #[.s "match"])) #[.r (.mk0 16)] .n,.f (.val (.m (.v 0) "skips" #[.s "shift"])) #[.r (.mk0 17)] .n,.e (.m (.v 0) "take_word" #[.s "turn"]),.r (.mk0 18)]⟩
abbrev iX:aH:=⟨["reader"],["reader","many"],[],#[.a 1 (.m (.v 0) "take_number" #[.i 0,.gl "MOST_HOPPED"]),.f (.val (.m (.v 0) "skips" #[.s "if"])) #[.r (.make 9 #[.v 1,.m (.v 0) "take_number" #[.i 0,.i 1]])] .n,.r (.make 9 #[.v 1])]⟩
abbrev gM:aH:=⟨["reader"],["reader"],[],#[.f (.val (.m (.v 0) "skips" #[.s "set"])) #[.r (.make 4 #[.m (.v 0) "take_box" .n,.m (.v 0) "take_number" #[.neg (.gl "BOUND"),.gl "BOUND"]])] .n,.f (.val (.m (.v 0) "skips" #[.s "add"])) #[.r (.make 5 #[.m (.v 0) "take_box" .n,.m (.v 0) "take_number" #[.neg (.gl "BOUND"),.gl "BOUND"]])] .n,.f (.val (.m (.v 0) "skips" #[.s "take"])) #[.r (.make 6 #[.m (.v 0) "take_box" .n,.m (.v 0) "take_box" .n])] .n,.f (.val (.m (.v 0) "skips" #[.s "read"])) #[.r (.make 7 #[.m (.v 0) "take_box" .n])] .n,.f (.val (.m (.v 0) "skips" #[.s "write"])) #[.r (.make 8 #[.m (.v 0) "take_box" .n])] .n,.f (.val (.m (.v 0) "skips" #[.s "hop"])) #[.r (.k 47 #[.v 0])] .n,.r (.k 46 #[.v 0])]⟩
abbrev gI:aH:=⟨["reader","depth"],["reader","depth","on","block"],[],#[.a 2 (.m (.v 0) "take_number" #[.i 0,.i 1]),.a 3 (.k 51 #[.v 0,.v 1]),.f (.val (.m (.v 0) "skips" #[.s "else"])) #[.r (.make 12 #[.v 2,.v 3,.k 51 #[.v 0,.v 1]])] .n,.r (.make 12 #[.v 2,.v 3])]⟩
abbrev gX:aH:=⟨["reader","depth"],["reader","depth"],[],#[.f (.val (.m (.v 0) "skips" #[.s "do"])) #[.r (.make 10 #[.m (.v 0) "take_name" .n])] .n,.f (.val (.m (.v 0) "skips" #[.s "times"])) #[.r (.make 11 #[.m (.v 0) "take_number" #[.i 0,.gl "MOST_TIMES"],.k 51 #[.v 0,.bin .Add (.v 1) (.i 1)]])] .n,.f (.val (.m (.v 0) "skips" #[.s "when"])) #[.r (.k 49 #[.v 0,.bin .Add (.v 1) (.i 1)])] .n,.r (.k 48 #[.v 0])]⟩
abbrev bO:aH:=⟨["reader","depth"],["reader","depth","items"],[],#[.f (.q .Gt (.v 1) (.gl "DEEPEST")) #[.rais (.make 2 #[.fld (.v 0) "at"])] .n,.e (.m (.v 0) "take_word" #[.s "("]),.f (.val (.m (.v 0) "skips" #[.s ")"])) #[.r (.lst .n)] .n,.a 2 (.lst #[.k 50 #[.v 0,.v 1]]),.whl (.and (.q .Lt (.bf .len #[.v 2]) (.gl "MOST_ITEMS")) (.val (.m (.v 0) "skips" #[.s ";"]))) #[.e (.lm .append (.v 2) #[.k 50 #[.v 0,.v 1]])],.e (.m (.v 0) "take_word" #[.s ")"]),.r (.v 2)]⟩
abbrev fv:aH:=⟨["reader"],["reader"],[],#[.r (.k 51 #[.v 0,.i 1])]⟩
abbrev fP:aH:=⟨["text"],["text","reader","block"],[],#[.a 1 (.make 19 #[.v 0]),.a 2 (.k 52 #[.v 1]),.e (.m (.v 1) "finish" .n),.r (.v 2)]⟩
abbrev f9:aH:=⟨["when"],["when","told"],[],#[.a 1 (.bin .Add (.lst #[.s "when",.bf .str #[.fld (.v 0) "on"]]) (.k 56 #[.fld (.v 0) "block"])),.f (.q .Gt (.bf .len #[.fld (.v 0) "other"]) (.i 0)) #[.e (.lm .append (.v 1) #[.s "else"]),.e (.lm .extend (.v 1) #[.k 56 #[.fld (.v 0) "other"]])] .n,.r (.v 1)]⟩
abbrev f7:aH:=⟨["item"],["item"],[],#[.f (.val (.isi (.v 0) (.own 10))) #[.r (.lst #[.s "do",.fld (.v 0) "called"])] .n,.f (.val (.isi (.v 0) (.own 11))) #[.r (.bin .Add (.lst #[.s "times",.bf .str #[.fld (.v 0) "many"]]) (.k 56 #[.fld (.v 0) "block"]))] .n,.f (.val (.isi (.v 0) (.own 12))) #[.r (.k 54 #[.v 0])] .n,.r (.m (.v 0) "words" .n)]⟩
abbrev cu:aH:=⟨["block"],["block","told","place","item"],[],#[.a 1 (.lst #[.s "("]),.for (.tp [2,3]) (.enm (.v 0)) #[.f (.q .Gt (.v 2) (.i 0)) #[.e (.lm .append (.v 1) #[.s ";"])] .n,.e (.lm .extend (.v 1) #[.k 55 #[.v 3]])],.e (.lm .append (.v 1) #[.s ")"]),.r (.v 1)]⟩
abbrev f6:aH:=⟨["block"],["block"],[],#[.r (.sm .join (.s " ") (.k 56 #[.v 0]))]⟩
abbrev gH:aH:=⟨["_law_script"],["_law_script","_law_cells","_law_fold","_law_cell"],[],#[.a 1 (.bf .list #[.sl (.v 0) .no (.yes (.i 63))]),.a 2 (.bf .len #[.v 1]),.for (.nm 3) (.seq (.v 1)) #[.a 2 (.bin .Mod (.bin .Add (.bin .Add (.bin .Mult (.v 2) (.i 48271)) (.bin .Mod (.v 3) (.i 2147483647))) (.i 1)) (.i 2147483629))],.r (.lst #[.v 1,.v 2,.i 0,.i 0,.i 0])]⟩
abbrev gL:aH:=⟨["_law_hand_here","_law_many"],["_law_hand_here","_law_many","_law_rest","_law_cell","_law_one","_law_two"],[],#[.augS (.v 0) (.i 4) .Add (.i 1),.a 2 (.ix (.v 0) (.i 3)),.a 3 (.ix (.v 0) (.i 1)),.f (.q .Gt (.v 2) (.i 0)) #[.sub (.v 0) (.i 3) (.bin .FloorDiv (.v 2) (.v 1)),.r (.bin .Mod (.v 2) (.v 1))] .n,.f (.q .Lt (.ix (.v 0) (.i 2)) (.bf .len #[.ix (.v 0) (.i 0)])) #[.a 3 (.ix (.ix (.v 0) (.i 0)) (.ix (.v 0) (.i 2))),.augS (.v 0) (.i 2) .Add (.i 1),.f (.q .GtE (.v 3) (.bin .Pow (.i 10) (.i 18))) #[.sub (.v 0) (.i 3) (.bin .FloorDiv (.v 3) (.v 1)),.r (.bin .Mod (.v 3) (.v 1))] .n] .n,.a 4 (.bin .Mod (.bin .Pow (.bin .Add (.bin .Mod (.v 3) (.i 998244353)) (.bin .Mult (.i 7919) (.ix (.v 0) (.i 4)))) (.i 5)) (.i 2147483647)),.a 5 (.bin .Mod (.bin .Pow (.bin .Add (.bin .Add (.v 4) (.bin .Mult (.i 104729) (.ix (.v 0) (.i 4)))) (.ix (.v 0) (.i 1))) (.i 3)) (.i 2147483629)),.r (.bin .Mod (.bin .FloorDiv (.v 5) (.i 7)) (.v 1))]⟩
abbrev gN:aH:=⟨["_law_hand_here","_law_size"],["_law_hand_here","_law_size","_law_way","_law_names","_law_box","_law_pick"],[],#[.a 2 (.k 59 #[.v 0,.i 14]),.a 3 (.lst #[.s "here",.s "there",.s "left",.s "way",.s "sign",.s "met"]),.a 4 (.ix (.v 3) (.k 59 #[.v 0,.i 6])),.f (.q .Lt (.v 2) (.i 6)) #[.r (.tup #[.ix (.lst #[.s "copy",.s "fill",.s "seek",.s "match",.s "shift",.s "turn"]) (.v 2)])] .n,.f (.q .Lt (.v 2) (.i 9)) #[.a 4 (.ix (.lst #[.s "here",.s "there",.s "left",.v 4]) (.k 59 #[.v 0,.i 4])),.a 5 (.bin .FloorDiv (.k 59 #[.v 0,.i 8]) (.i 3)),.r (.tup #[.s "set",.v 4,.ix (.lst #[.k 59 #[.v 0,.bin .Add (.v 1) (.i 1)],.bin .Sub (.k 59 #[.v 0,.i 5]) (.i 2),.bin .Sub (.bin .Pow (.i 10) (.i 9)) (.k 59 #[.v 0,.i 2])]) (.v 5)])] .n,.f (.q .Eq (.v 2) (.i 9)) #[.a 5 (.bin .FloorDiv (.k 59 #[.v 0,.i 7]) (.i 3)),.r (.tup #[.s "add",.v 4,.ix (.lst #[.bin .Sub (.k 59 #[.v 0,.i 7]) (.i 3),.k 59 #[.v 0,.bin .Add (.v 1) (.i 1)],.neg (.bin .Pow (.i 10) (.i 9))]) (.v 5)])] .n,.f (.q .Eq (.v 2) (.i 10)) #[.r (.tup #[.s "take",.v 4,.ix (.v 3) (.k 59 #[.v 0,.i 6])])] .n,.f (.q .Lt (.v 2) (.i 13)) #[.r (.tup #[.ix (.lst #[.s "read",.s "write"]) (.bin .Sub (.v 2) (.i 11)),.v 4])] .n,.r (.tup #[.s "hop",.k 59 #[.v 0,.i 4],.ix (.lst #[.non,.i 0,.i 1]) (.k 59 #[.v 0,.i 3])])]⟩
abbrev hG:aH:=⟨["_law_spec_here"],["_law_spec_here","_law_word"],[],#[.a 1 (.ix (.v 0) (.i 0)),.f (.q .Eq (.v 1) (.s "set")) #[.r (.make 4 #[.ix (.v 0) (.i 1),.ix (.v 0) (.i 2)])] .n,.f (.q .Eq (.v 1) (.s "add")) #[.r (.make 5 #[.ix (.v 0) (.i 1),.ix (.v 0) (.i 2)])] .n,.f (.q .Eq (.v 1) (.s "take")) #[.r (.make 6 #[.ix (.v 0) (.i 1),.ix (.v 0) (.i 2)])] .n,.f (.q .Eq (.v 1) (.s "read")) #[.r (.make 7 #[.ix (.v 0) (.i 1)])] .n,.f (.q .Eq (.v 1) (.s "write")) #[.r (.make 8 #[.ix (.v 0) (.i 1)])] .n,.f (.q .Eq (.v 1) (.s "hop")) #[.r (.make 9 #[.ix (.v 0) (.i 1),.ix (.v 0) (.i 2)])] .n,.r (.k 62 #[.v 1])]⟩
abbrev gT:aH:=⟨["_law_word"],["_law_word"],[],#[.f (.q .Eq (.v 0) (.s "copy")) #[.r (.mk0 13)] .n,.f (.q .Eq (.v 0) (.s "fill")) #[.r (.mk0 14)] .n,.f (.q .Eq (.v 0) (.s "seek")) #[.r (.mk0 15)] .n,.f (.q .Eq (.v 0) (.s "match")) #[.r (.mk0 16)] .n,.f (.q .Eq (.v 0) (.s "shift")) #[.r (.mk0 17)] .n,.r (.mk0 18)]⟩
abbrev fm:aH:=⟨["_law_spec_here"],["_law_spec_here","_law_words_here"],[],#[.a 1 (.lci (.bf .str #[.v 0]) (.q .IsNot (.v 0) .non) [] (.seq (.v 0))),.f (.and (.q .Eq (.ix (.v 0) (.i 0)) (.s "hop")) (.q .IsNot (.ix (.v 0) (.i 2)) .non)) #[.a 1 (.bin .Add (.bin .Add (.sl (.v 1) .no (.yes (.i 2))) (.lst #[.s "if"])) (.sl (.v 1) (.yes (.i 2)) .no))] .n,.r (.v 1)]⟩
abbrev gU:aH:=⟨["_law_hand_here"],["_law_hand_here","_law_some","_law_letters"],[],#[.a 1 (.lst #[.s "a",.s "do",.s "and",.s "else",.s "when",.s "times",.s "copy",.s "set",.s "if",.s "zzzzzzzz",.s "hop",.s "here"]),.f (.q .Gt (.k 59 #[.v 0,.i 3]) (.i 0)) #[.r (.ix (.v 1) (.k 59 #[.v 0,.bf .len #[.v 1]]))] .n,.a 2 (.s "abcdefghijklmnopqrstuvwxyz"),.r (.sm .join (.s "") (.lc (.ix (.v 1) (.k 59 #[.v 2,.i 26])) [2,0] (.rng1 (.bin .Add (.i 1) (.k 59 #[.v 0,.i 8])))))]⟩
abbrev gc:aH:=⟨["_law_hand_here","_law_deep","_law_room"],["_law_hand_here","_law_deep","_law_room","_law_block_here","_law_k"],[],#[.a 3 (.lst .n),.for (.nm 4) (.rng1 (.ix (.lst #[.i 1,.i 2,.i 3,.i 0,.i 2,.i 5]) (.k 59 #[.v 0,.i 6]))) #[.f (.q .Gt (.ix (.v 2) (.i 0)) (.i 0)) #[.augS (.v 2) (.i 0) .Sub (.i 1),.e (.lm .append (.v 3) #[.k 66 #[.v 0,.v 1,.v 2]])] .n],.r (.v 3)]⟩
abbrev cp:aH:=⟨["_law_hand_here","_law_deep","_law_room"],["_law_hand_here","_law_deep","_law_room","_law_way","_law_other"],[],#[.a 3 (.k 59 #[.v 0,.i 9]),.f (.or (.q .Lt (.v 3) (.i 5)) (.and (.q .Eq (.v 1) (.i 4)) (.q .Gt (.v 3) (.i 5)))) #[.r (.tup #[.s "deed",.k 60 #[.v 0,.i 60]])] .n,.f (.q .Eq (.v 3) (.i 5)) #[.r (.tup #[.s "do",.k 64 #[.v 0]])] .n,.f (.q .Eq (.v 3) (.i 6)) #[.r (.tup #[.s "times",.k 59 #[.v 0,.i 10],.k 65 #[.v 0,.bin .Add (.v 1) (.i 1),.v 2]])] .n,.a 4 (.lst .n),.f (.q .Eq (.k 59 #[.v 0,.i 2]) (.i 0)) #[.a 4 (.k 65 #[.v 0,.bin .Add (.v 1) (.i 1),.v 2])] .n,.r (.tup #[.s "when",.k 59 #[.v 0,.i 2],.k 65 #[.v 0,.bin .Add (.v 1) (.i 1),.v 2],.v 4])]⟩
abbrev cH:aH:=⟨["_law_item_here"],["_law_item_here","_law_text_here"],[],#[.f (.q .Eq (.ix (.v 0) (.i 0)) (.s "deed")) #[.r (.sm .join (.s " ") (.k 63 #[.ix (.v 0) (.i 1)]))] .n,.f (.q .Eq (.ix (.v 0) (.i 0)) (.s "do")) #[.r (.bin .Add (.s "do ") (.ix (.v 0) (.i 1)))] .n,.f (.q .Eq (.ix (.v 0) (.i 0)) (.s "times")) #[.r (.bin .Add (.bin .Add (.bin .Add (.s "times ") (.bf .str #[.ix (.v 0) (.i 1)])) (.s " ")) (.k 68 #[.ix (.v 0) (.i 2)]))] .n,.a 1 (.bin .Add (.bin .Add (.bin .Add (.s "when ") (.bf .str #[.ix (.v 0) (.i 1)])) (.s " ")) (.k 68 #[.ix (.v 0) (.i 2)])),.f (.q .NotEq (.ix (.v 0) (.i 3)) (.lst .n)) #[.a 1 (.bin .Add (.bin .Add (.v 1) (.s " else ")) (.k 68 #[.ix (.v 0) (.i 3)]))] .n,.r (.v 1)]⟩
abbrev gK:aH:=⟨["_law_block_here"],["_law_block_here"],[],#[.f (.q .Eq (.v 0) (.lst .n)) #[.r (.s "( )")] .n,.r (.bin .Add (.bin .Add (.s "( ") (.sm .join (.s " ; ") (.lc (.k 67 #[.v 0]) [] (.seq (.v 0))))) (.s " )"))]⟩
abbrev dE:aH:=⟨["_law_block_here"],["_law_block_here","_law_items","_law_item_here"],[],#[.a 1 (.lst .n),.for (.nm 2) (.seq (.v 0)) #[.f (.q .Eq (.ix (.v 2) (.i 0)) (.s "deed")) #[.e (.lm .append (.v 1) #[.k 61 #[.ix (.v 2) (.i 1)]])] #[.f (.q .Eq (.ix (.v 2) (.i 0)) (.s "do")) #[.e (.lm .append (.v 1) #[.make 10 #[.ix (.v 2) (.i 1)]])] #[.f (.q .Eq (.ix (.v 2) (.i 0)) (.s "times")) #[.e (.lm .append (.v 1) #[.make 11 #[.ix (.v 2) (.i 1),.k 69 #[.ix (.v 2) (.i 2)]]])] #[.f (.q .Eq (.ix (.v 2) (.i 3)) (.lst .n)) #[.e (.lm .append (.v 1) #[.make 12 #[.ix (.v 2) (.i 1),.k 69 #[.ix (.v 2) (.i 2)]]])] #[.e (.lm .append (.v 1) #[.make 12 #[.ix (.v 2) (.i 1),.k 69 #[.ix (.v 2) (.i 2)],.k 69 #[.ix (.v 2) (.i 3)]]])]]]]],.r (.v 1)]⟩
abbrev j8:aH:=⟨["_law_items","_law_block_here"],["_law_items","_law_block_here"],[],#[.f (.or (.not (.val (.isi (.v 0) (.ty "list")))) (.q .NotEq (.bf .len #[.v 0]) (.bf .len #[.v 1]))) #[.r (.bl false)] .n,.r (.bf .all #[.lc (.k 71 #[.ix (.v 1) (.v 0),.ix (.v 2) (.v 0)]) [0,1] (.rng1 (.bf .len #[.v 1]))])]⟩
abbrev dz:aH:=⟨["_law_thing","_law_item_here"],["_law_thing","_law_item_here"],[],#[.f (.q .Eq (.ix (.v 1) (.i 0)) (.s "deed")) #[.r (.and (.isi (.v 0) (.own 3)) (.q .Eq (.m (.v 0) "words" .n) (.k 63 #[.ix (.v 1) (.i 1)])))] .n,.f (.q .Eq (.ix (.v 1) (.i 0)) (.s "do")) #[.r (.and (.isi (.v 0) (.own 10)) (.q .Eq (.m (.v 0) "told" .n) (.tup #[.s "do",.ix (.v 1) (.i 1)])))] .n,.f (.q .Eq (.ix (.v 1) (.i 0)) (.s "times")) #[.f (.or (.not (.val (.isi (.v 0) (.own 11)))) (.q .NotEq (.sl (.m (.v 0) "told" .n) .no (.yes (.i 2))) (.tup #[.s "times",.ix (.v 1) (.i 1)]))) #[.r (.bl false)] .n,.r (.k 70 #[.ix (.m (.v 0) "told" .n) (.i 2),.ix (.v 1) (.i 2)])] .n,.f (.or (.not (.val (.isi (.v 0) (.own 12)))) (.q .NotEq (.sl (.m (.v 0) "told" .n) .no (.yes (.i 2))) (.tup #[.s "when",.ix (.v 1) (.i 1)]))) #[.r (.bl false)] .n,.r (.and (.k 70 #[.ix (.m (.v 0) "told" .n) (.i 2),.ix (.v 1) (.i 2)]) (.k 70 #[.ix (.m (.v 0) "told" .n) (.i 3),.ix (.v 1) (.i 3)]))]⟩
abbrev fY:aH:=⟨["_law_block_here"],["_law_block_here","_law_text_here","_law_turn","_law_items","_law_made_here"],[],#[.a 1 (.k 68 #[.v 0]),.for (.nm 2) (.rng1 (.i 2)) #[.a 3 (.k 53 #[.v 1]),.f (.or (.not (.val (.k 70 #[.v 3,.v 0]))) (.q .NotEq (.k 57 #[.v 3]) (.v 1))) #[.r (.bl false)] .n,.e (.lm .append (.v 3) #[.mk0 13])],.a 4 (.k 69 #[.v 0]),.r (.and (.q .Eq (.k 57 #[.v 4]) (.v 1)) (.and (.k 70 #[.v 4,.v 0]) (.q .Eq (.k 57 #[.k 53 #[.v 1]]) (.v 1))))]⟩
abbrev aW:aH:=⟨["_law_hand_here","_law_block_here"],["_law_hand_here","_law_block_here","_law_on","_law_text_here","_law_items"],[],#[.a 2 (.k 59 #[.v 0,.i 2]),.a 3 (.bin .Add (.bin .Add (.bin .Add (.bin .Add (.s "( when ") (.bf .str #[.v 2])) (.s " ")) (.k 68 #[.v 1])) (.s " else ( ) )")),.a 4 (.k 53 #[.v 3]),.r (.and (.k 70 #[.v 4,.lst #[.tup #[.s "when",.v 2,.v 1,.lst .n]]]) (.q .Eq (.k 57 #[.v 4]) (.bin .Add (.sl (.v 3) .no (.yes (.neg (.i 11)))) (.s " )"))))]⟩
abbrev jU:aH:=⟨["_law_script"],["_law_script","_law_hand_here","_law_turn","_law_block_here","_law_inner","_law_deep"],[],#[.a 1 (.k 58 #[.v 0]),.for (.nm 2) (.rng1 (.i 4)) #[.a 3 (.k 65 #[.v 1,.i 1,.lst #[.i 30]]),.f (.not (.val (.k 72 #[.v 3]))) #[.r (.bl false)] .n],.f (.q .Eq (.k 59 #[.v 1,.i 6]) (.i 0)) #[.a 3 (.lc (.tup #[.s "deed",.k 60 #[.v 1,.i 60]]) [1] (.rng1 (.i 23))),.e (.lm .insert (.v 3) #[.k 59 #[.v 1,.i 24],.k 66 #[.v 1,.i 2,.lst #[.i 9]]]),.f (.or (.not (.val (.k 72 #[.v 3]))) (.not (.val (.k 72 #[.lst #[.tup #[.s "times",.i 2,.v 3]]])))) #[.r (.bl false)] .n] .n,.a 4 (.k 65 #[.v 1,.i 2,.lst #[.i 6]]),.a 5 (.lst #[.tup #[.s "times",.i 9,.lst #[.tup #[.s "when",.i 0,.lst #[.tup #[.s "times",.i 0,.k 65 #[.v 1,.i 4,.lst #[.i 6]]]],.lst #[.tup #[.s "deed",.tup #[.s "turn"]]]]]]]),.r (.and (.k 73 #[.v 1,.v 4]) (.and (.k 72 #[.v 5]) (.and (.k 72 #[.lst .n]) (.q .Eq (.k 53 #[.s "( )"]) (.lst .n)))))]⟩
abbrev tab:Tab where
  fns:=(fV::cn::iP::mx::gR::gJ::dM::dI::gW::du::g8::c9::fZ::dc::fM::cD::en::kz::qy::dB::gP::eA::jS::cK::cX::bL::cb::fL::fE::gd::eE::eo::fR::gm::c5::dU::b9::dr::cz::dX::bU::bV::cf::bJ::dR::dg::cN::iX::gM::gI::gX::bO::fv::fP::f9::f7::cu::f6::gH::gL::gN::hG::gT::fm::gU::gc::cp::cH::gK::dE::j8::dz::fY::aW::jU::[])
  gfn:=(("is_whole",2)::("is_box",3)::("is_number",4)::("check_box",5)::("check_number",6)::("is_many",17)::("is_on",18)::("is_name",33)::("is_written",34)::("number_of",35)::("long_deed_from",46)::("hop_from",47)::("deed_from",48)::("when_from",49)::("item_from",50)::("items_from",51)::("block_from",52)::("read_block",53)::("when_words",54)::("item_words",55)::("block_words",56)::("show_block",57)::("_law_hand",58)::("_law_draw",59)::("_law_spec",60)::("_law_deed",61)::("_law_long",62)::("_law_words",63)::("_law_name",64)::("_law_block",65)::("_law_item",66)::("_law_item_text",67)::("_law_text",68)::("_law_made",69)::("_law_is",70)::("_law_is_item",71)::("_law_right",72)::("_law_empty_other",73)::("law",74)::[])
  gcl:=[("HaulError",0),("NoDeed",1),("NoText",2),("Deed",3),("Set",4),("Add",5),("Take",6),("Read",7),("Write",8),("Hop",9),("Do",10),("Times",11),("When",12),("Copy",13),("Fill",14),("Seek",15),("Match",16),("Shift",17),("Turn",18),("Reader",19)]
  gbl:=["all","bool","enumerate","int","isinstance","len","list","range","str"]
  gbi:=["HaulError"]
  na:=[(1,"word"),(2,"at"),(4,"box"),(4,"number"),(5,"box"),(5,"number"),(6,"box"),(6,"other"),(7,"box"),(8,"box"),(9,"many"),(9,"on"),(10,"called"),(11,"block"),(11,"many"),(12,"block"),(12,"on"),(12,"other"),(19,"at"),(19,"queue")]
  me:=[((4,"words"),8),((5,"words"),10),((6,"words"),12),((7,"words"),14),((8,"words"),16),((9,"words"),20),((10,"told"),22),((11,"told"),24),((12,"told"),26),((13,"words"),27),((14,"words"),28),((15,"words"),29),((16,"words"),30),((17,"words"),31),((18,"words"),32),((19,"ahead"),37),((19,"ended"),44),((19,"finish"),45),((19,"skips"),39),((19,"take"),38),((19,"take_box"),42),((19,"take_name"),41),((19,"take_number"),43),((19,"take_word"),40)]
  ini:=[(1,0),(2,1),(4,7),(5,9),(6,11),(7,13),(8,15),(9,19),(10,21),(11,23),(12,25),(19,36)]
  ini0:=[]
  inip:=[13,14,15,16,17,18]
  oc:=[3,4,5,6,7,8,9,10,11,12,13,14,15,16,17,18,19]
  xc:=[0,1,2]
  sub:=(((3,3),true)::((3,10),false)::((3,11),false)::((3,12),false)::((4,3),true)::((4,10),false)::((4,11),false)::((4,12),false)::((5,3),true)::((5,10),false)::((5,11),false)::((5,12),false)::((6,3),true)::((6,10),false)::((6,11),false)::((6,12),false)::((7,3),true)::((7,10),false)::((7,11),false)::((7,12),false)::((8,3),true)::((8,10),false)::((8,11),false)::((8,12),false)::((9,3),true)::((9,10),false)::((9,11),false)::((9,12),false)::((10,3),false)::((10,10),true)::((10,11),false)::((10,12),false)::((11,3),false)::((11,10),false)::((11,11),true)::((11,12),false)::((12,3),false)::((12,10),false)::((12,11),false)::((12,12),true)::((13,3),true)::((13,10),false)::((13,11),false)::((13,12),false)::((14,3),true)::((14,10),false)::((14,11),false)::((14,12),false)::((15,3),true)::((15,10),false)::((15,11),false)::((15,12),false)::((16,3),true)::((16,10),false)::((16,11),false)::((16,12),false)::((17,3),true)::((17,10),false)::((17,11),false)::((17,12),false)::((18,3),true)::((18,10),false)::((18,11),false)::((18,12),false)::((19,3),false)::((19,10),false)::((19,11),false)::((19,12),false)::[])
  subT:=[]
  subB:=[(("NoneType","bool"),false),(("NoneType","int"),false),(("NoneType","list"),false),(("NoneType","str"),false),(("bool","bool"),true),(("bool","int"),true),(("bool","list"),false),(("bool","str"),false),(("int","bool"),false),(("int","int"),true),(("int","list"),false),(("int","str"),false),(("str","bool"),false),(("str","int"),false),(("str","list"),false),(("str","str"),true),(("list","bool"),false),(("list","int"),false),(("list","list"),true),(("list","str"),false),(("tuple","bool"),false),(("tuple","int"),false),(("tuple","list"),false),(("tuple","str"),false),(("dict","bool"),false),(("dict","int"),false),(("dict","list"),false),(("dict","str"),false)]
  subO:=[]
/-- what the proofs ask of the addresses -/
structure Ro (K:W.Frag) (R:Rt):Prop where
  hK:R.K=K
  g_BOUND:R.gl "BOUND"=some (.int 1000000000)
  g_MOST_HOPPED:R.gl "MOST_HOPPED"=some (.int 24)
  g_LONGEST_NAME:R.gl "LONGEST_NAME"=some (.int 8)
  g_MOST_FIGURES:R.gl "MOST_FIGURES"=some (.int 10)
  g_MOST_TIMES:R.gl "MOST_TIMES"=some (.int 9)
  g_MOST_ITEMS:R.gl "MOST_ITEMS"=some (.int 24)
  g_DEEPEST:R.gl "DEEPEST"=some (.int 4)
  g_LETTERS:R.gl "LETTERS"=some (.str "abcdefghijklmnopqrstuvwxyz")
  g_FIGURES:R.gl "FIGURES"=some (.str "0123456789")
  g_NAMES:∃ a,R.gl "NAMES"=some (.ref a)/\∀ H,cM K H a [.str "here",.str "there",.str "left",.str "way",.str "sign",.str "met"]
end My
set_option Elab.async false
set_option maxHeartbeats 8000000
namespace My
open PySem L2 L3
open L2.V renaming ref→v0,int→v4,str→v6,non→wf
open L2.HO renaming lst→wl,tup→wn,ins→wp
local macro_rules|`(tactic|delta $x:ident)=>`(tactic|refine wc (d:=$x) nofun rfl rfl ?_)
variable {h a x d dx D:Addr}{m i lo hi:Int}{ns:List Int}{r y:List Str}{n c:Nat}{v:V}{α:Type}{xs vs ys:List V}{P:V->Prop}{G:Gx}{z:Str}{o:Option Int}{sp:Sp}{F:List ar}{l:List (List Str)}{I:Nat->Addr->List V->Hp->Prop}{H3:Hp}{te:TE}{rest:St}
section
variable {K:W.Frag}{R:Rt}{k:Nat}{H:Hp}{Q:VK}{E:XK}{O Γ' Δ:List ar}
local macro_rules| `(tactic|walk_at "w")=>`(tactic|conv=>whnf)
local macro_rules| `(tactic|left)=>`(tactic|walk_at "w")
local macro_rules| `(tactic|symm)=>`(tactic|((with_reducible (repeat(first|exact au.e|apply au.t)));done))
local macro_rules| `(tactic|ac_rfl)=>`(tactic|((with_reducible (repeat(first|exact dn.e|apply dn.t)));done))
local macro_rules| `(tactic|ac_nf)=>`(tactic|first|(with_reducible exact Sub.refl)|(refine' Sub.cons ?h ?r;(case h=>symm);(case r=>ac_nf))|(with_reducible exact Sub.nil)|(with_reducible apply Sub.drop;(ac_nf)))
local macro_rules| `(tactic|walk_at "sp")=>`(tactic|(refine Sep.sub ?_ (by with_reducible assumption);(ac_nf)))
local macro_rules| `(tactic|grind)=>`(tactic|first|exact Sep.get (by with_reducible assumption) (by symm)|exact Sep.DX (by with_reducible assumption) (by symm))
local macro_rules| `(tactic|walk_at "ar")=>`(tactic|first|lia|omega|decide|exact pi rfl|(unfold rF;omega)|(unfold yI;omega)|(unfold yI;decide)|(unfold rF;decide)|(simp only[cr,length_set,List.length_replicate];omega))
local macro_rules| `(tactic|walk_at "ls")=>`(tactic|first|(conv=>lhs;simp only[List.set_cons_succ,List.set_cons_zero,Int.reduceToNat])|rfl)
local macro_rules| `(tactic|walk_at "pf")=>`(tactic|first|(conv=>lhs;simp (decide:=true) only [cw,if_true,if_false])|rfl)
local macro_rules| `(tactic|walk_at "st")=>`(tactic|first
  |(with_reducible refine And.intro rfl ?_)
  |(with_reducible refine aY rfl ?_)
  |(with_reducible refine aL rfl ?_)
  |(with_reducible refine BC ?_)
  |((with_reducible refine' eX ?e ?v ?_);(case e=>grind);(case v=>exact rfl))
  |((with_reducible refine' aB ?e ?v ?_);(case e=>grind);(case v=>exact rfl))
  |((with_reducible refine' D8 ?e ?i ?v ?_);(case e=>grind);(case i=>omega);(case v=>exact rfl))
  |(with_reducible refine bf_min rfl ?_)
  |(with_reducible refine bf_max rfl ?_)
  |((with_reducible refine' c7 ?e ?_);(case e=>grind))
  |((with_reducible refine' bf_lenT ?e ?_);(case e=>grind))
  |((with_reducible refine' EI ?s ?r ?j ?x (λH hs=>?_));(case s=>with_reducible assumption);(case r=>ac_rfl);(case j=>exact rfl);(case x=>walk_at "ls"))
  |((with_reducible refine' fc ?s ?l (λp H hs=>?_));(case s=>with_reducible assumption);(case l=>exact pi rfl))
  |((with_reducible refine' n8 ?s ?l (λp H hs=>?_));(case s=>with_reducible assumption);(case l=>exact pi rfl))
  |((with_reducible refine' al_dct ?s (λp H hs=>?_));(case s=>with_reducible assumption))
  |((with_reducible refine' AU ?e ?_);(case e=>grind))
  |((with_reducible refine' EL ?e ?_);(case e=>grind))
  |((with_reducible refine' u6 ?s ?e ?f ?l (λp H hs=>?_));(case s=>with_reducible assumption);(case e=>grind);(case f=>grind);(case l=>walk_at "ar"))
  |((with_reducible refine' rep_l ?s ?e ?f ?g ?l (λp H hs=>?_));(case s=>with_reducible assumption);(case e=>grind);(case f=>walk_at "ar");(case g=>walk_at "ar");(case l=>walk_at "ar"))
  |((with_reducible refine' BU ?s ?r ?o ?n ?l ?x (λH hs=>?_));(case s=>with_reducible assumption);(case r=>ac_rfl);(case o=>exact rfl);(case n=>exact rfl);(case l=>walk_at "ar");(case x=>walk_at "pf"))
  |((with_reducible refine' ak ?e ?o ?n ?l ?_);(case e=>grind);(case o=>exact rfl);(case n=>exact rfl);(case l=>exact rfl))
  |((with_reducible refine' fld_x ?e ?o ?n ?l ?_);(case e=>grind);(case o=>exact rfl);(case n=>exact rfl);(case l=>exact rfl))
  |((with_reducible refine' isi_x ?e ?o ?b ?_);(case e=>grind);(case o=>exact rfl);(case b=>exact rfl))
  |((with_reducible refine' isi_xt ?e ?o ?b ?_);(case e=>grind);(case o=>exact rfl);(case b=>exact rfl))
  |((with_reducible refine' j6 ?t ?b ?_);(case t=>exact rfl);(case b=>exact rfl))
  |((with_reducible refine' b6 ?a ?b ?_);(case a=>exact rfl);(case b=>exact rfl))
  |((with_reducible refine' rg ?a ?b ?_);(case a=>exact rfl);(case b=>exact rfl))
  |((with_reducible refine' aU ?s ?e (λp H hs=>?_));(case s=>with_reducible assumption);(case e=>grind))
  |((with_reducible refine' Fp ?s ?e (λp H hs=>?_));(case s=>with_reducible assumption);(case e=>grind))
  |(refine And.intro (by walk_at "ar") ?_))
local macro_rules| `(tactic|walk_at "go")=>`(tactic|(walk_at "w";repeat(walk_at "st";walk_at "w")))
local macro_rules| `(tactic|right)=>`(tactic|walk_at "go")
abbrev hand (h:Addr)(m:Int):ar:=ex λx:Addr×List Int×Int×Int×Int×Int=>oy (pt h (wl [v0 x.1,v4 x.2.2.1,v4 x.2.2.2.1,v4 x.2.2.2.2.1,v4 x.2.2.2.2.2])) (oy (pt x.1 (wl (x.2.1.map v4)))
 (pu (x.2.1.length<=63/\0<=x.2.2.1/\x.2.2.1<2147483629/\0<=x.2.2.2.1/\0<=x.2.2.2.2.1/\0<=x.2.2.2.2.2/\x.2.2.2.2.2<=m)))
def wq (s:Sep (hand h m::O) H):∃ (c:Addr) (ns:List Int) (fo i r n:Int),Sep (pt h (wl [v0 c,v4 fo,v4 i,v4 r,v4 n])::pt c (wl (ns.map v4))::O) H/\ns.length<=63/\0<=fo/\fo<2147483629/\0<=i/\0<=r/\0<=n/\n<=m:=by
 obtain⟨⟨c,ns,fo,i,r,n⟩,s⟩:=Sep.FF.mp s;have s2:=Sep.star.mp ((Sep.star.mp s).pull .k1);have p:=(s2.pull .k1).pure;exact⟨c,ns,fo,i,r,n,((s2.pull .k1).drop).pull .k1,p⟩
def gu {c:Addr}{fo r n:Int}(s:Sep (pt h (wl [v0 c,v4 fo,v4 i,v4 r,v4 n])::pt c (wl (ns.map v4))::O) H)(p:ns.length<=63/\0<=fo/\fo<2147483629/\0<=i/\0<=r/\0<=n/\n<=m):Sep (hand h m::O) H:=by
 refine Sep.FF.mpr ⟨⟨c,ns,fo,i,r,n⟩,Sep.star.mpr ?_⟩;exact(Sep.star.mpr (((s.pull .k1).pull .e |> λs=>(Sep.Fw p s).pull .k1))).pull .k1
def Eg:(10:Int) ^ Int.toNat 18=1000000000000000000:=by decide
def la {n:Int}(hk:1<=k)(s:Sep (hand h m::O) H)(hm:m<=1099511627776)(hn0:0<n)(hn1:n<1073741824)
  (q:∀ (r:Int) (H':Hp),0<=r->r<n->Sep (hand h (m+1)::O) H'->Q (v4 r) H'):ae tab R k 59 [v0 h,v4 n] H Q E:=by
 obtain⟨c,ns,fo,i,r,j,hs,h63,f0,f1,i0,r0,k0,k1⟩:=wq s;clear s;have nn:n≠0:=by omega
 delta gL;right;refine bK (λhr=>?_) (λhr=>?_)
 .right;rename_i H1 hs1 H2 hs2;exact q _ _ (Int.emod_nonneg _ nn) (Int.emod_lt_of_pos _ hn0) (gu hs2 ⟨h63,f0,f1,i0,Int.ediv_nonneg r0 nofun,by omega,by omega⟩)
 right;refine bK (λhc=>?_) (λhc=>?_)
 .right;obtain⟨z,hz⟩:∃ z,iB (ns.map v4) i=some (v4 z):=u0 i0 (by rw[cr]at hc;exact hc);refine eX (by grind) hz ?_;right;refine bK (λhz18=>?_) (λhz18=>?_)
  .rw[Eg]at hz18;right;rename_i H1 hs1 H2 hs2 H3 hs3;exact q _ _ (Int.emod_nonneg _ nn) (Int.emod_lt_of_pos _ hn0) (gu hs3 ⟨h63,f0,f1,by omega,Int.ediv_nonneg nofun nofun,by omega,by omega⟩)
  .right;rename_i H1 hs1 H2 hs2;exact q _ _ (Int.emod_nonneg _ nn) (Int.emod_lt_of_pos _ hn0) (gu hs2 ⟨h63,f0,f1,by omega,r0,by omega,by omega⟩)
 .right;rename_i H1 hs1;exact q _ _ (Int.emod_nonneg _ nn) (Int.emod_lt_of_pos _ hn0) (gu hs1 ⟨h63,f0,f1,by omega,r0,by omega,by omega⟩)
def BA (hk:1<=k)(s:Sep O H)(hS:aV R.K H a (ns.map v4))(h63:ns.length<=63)(q:∀ h H',Sep (hand h 0::O) H'->Q (v0 h) H'):ae tab R k 58 [v0 a] H Q E:=by
 delta gH;right;refine F3 s hS (λp H1 hs1=>?_);rw[Ey ns h63]at hs1;right;rename_i c H2 hs2;refine qE (xs:=ns.map v4) (λj U H=>∃ (fo:Int) (v:Option V),U=[some (v0 a),some (v0 c),some (v4 fo),v]/\0<=fo/\fo<2147483629/\Sep (pt c (wl (ns.map v4))::pt p (wl (ns.map v4))::O) H) ?_ ?_ ?_ ?_
 .exact⟨_,none,rfl,by rw[cr];omega,by rw[cr];omega,hs2⟩
 .rintro j U H ⟨fo,v,rfl,h0,h2,hs⟩;exact aV.of hs.at
 .rintro j x U H hx ⟨fo,v,rfl,h0,h2,hs⟩;obtain⟨z,rfl⟩:=pE hx;right;exact⟨_,_,rfl,by omega,by omega,hs⟩
 .rintro U H ⟨fo,v,rfl,h0,h2,hs⟩;right;rename_i l H3 hs3;exact q l _ (gu ((hs3.pull .k2).drop) ⟨h63,h0,h2,by omega,by omega,by omega,by omega⟩)
def ay {n:Int}(s:Sep (hand h m::O) H)(e:m<=n):Sep (hand h n::O) H:=by
 obtain⟨c,ns,fo,i,r,j,hs,h63,f0,f1,i0,r0,k0,k1⟩:=wq s;exact gu hs ⟨h63,f0,f1,i0,r0,k0,by omega⟩
inductive Kd (H:Hp):V->String->Prop where
 |non:Kd H wf "NoneType"
 |bl (b:Bool):Kd H (.bl b) "bool"
 |int (i:Int):Kd H (v4 i) "int"
 |str (x:Str):Kd H (v6 x) "str"
 |lst {a:Addr}{xs:List V}(e:H a=some (wl xs)):Kd H (v0 a) "list"
 |tup {a:Addr}{xs:List V}(e:H a=some (wn xs)):Kd H (v0 a) "tuple"
 |dct {a:Addr}{kvs:List (Key×V)}(e:Rd H a (.dK kvs)):Kd H (v0 a) "dict"
def md {t:String}(h:tyName v H=some t):Kd H v t:=by
 unfold tyName at h
 split at h
 .cases h;exact .non
 .cases h;exact .bl _
 .cases h;exact .int _
 .cases h;exact .str _
 .split at h
  .rename_i e;cases h;exact .lst e
  .rename_i e;cases h;exact .tup e
  .rename_i e;cases h;exact .dct (.inl e)
  .rename_i e;cases h;exact .dct (.inr ⟨_,e⟩)
  .cases h
 .cases h
abbrev Bz:V->Bool
 | v4 _=>true
 |_=>false
def cZ {t:String}(hk:1<=k)(ht:tyName v H=some t)(q:Q (.bl (Bz v)) H):ae tab R k 2 [v] H Q E:=by
 delta iP;right;cases md ht
 all_goals
  refine j6 ht rfl ?_;right
  first
   |exact q
   |(refine j6 ht rfl ?_;right;exact q)
abbrev nz (C:Addr)(fs:List (Str×V))(x:Addr)(fr:Bool):ar:=ex λd:Addr=>oy (pt x (.exc C (some d) fs fr)) (pt d (.own x))
def vh {C:Addr}{fs:List (Str×V)}{fr:Bool}(s:Sep (pt x (.exc C (some d) fs fr)::pt d (.own x)::O) H):Sep (nz C fs x fr::O) H:=Sep.FF.mpr ⟨d,Sep.star.mpr s⟩
def x6:(10:Int) ^ Int.toNat 9=1000000000:=by decide
local macro_rules| `(tactic|walk_at "dr")=>`(tactic|(refine' la ?k ?s ?m ?a ?b (λr H hr0 hr1 hs=>?_);(case s=>walk_at "sp");(case k=>exact nofun);(case m=>omega);(case a=>walk_at "ar");(case b=>walk_at "ar")))
local macro_rules| `(tactic|walk_at "gd")=>`(tactic|(walk_at "w";repeat(first|(walk_at "st";walk_at "w")|(walk_at "dr";walk_at "w"))))
abbrev bx (f:α->List ar):ar:=⟨λH D=>∃ x,aX (f x) H D,λH H' D ⟨x,h⟩ k t=>⟨x,aX.st h k t⟩,λH D D' ⟨x,h⟩ k=>⟨x,aX.up h k⟩⟩
def ft:∀ {O Δ:List ar}{D:Addr->Prop},aX (O++Δ) H D ↔ ∃ D1 D2:Addr->Prop,(∀ a,D1 a->D a)/\(∀ a,D2 a->D a)/\(∀ a,D1 a->D2 a->False)/\aX O H D1/\aX Δ H D2
 | [],Δ,D=>⟨λh=>⟨λ_=>False,D,λ_ z=>z.elim,λ_ z=>z,λ_ z _=>z,True.intro,h⟩,λ⟨_,_,_,s2,_,_,h⟩=>aX.up h s2⟩
 |A::O,Δ,D=>by
  constructor
  .rintro⟨E1,E2,s1,s2,dj,hA,h⟩;obtain⟨F1,F2,t1,t2,dk,h1,h2⟩:=ft.mp h;refine⟨λa=>E1 a\/F1 a,F2,λa z=>z.elim (s1 a) λz=>s2 a (t1 a z),λa z=>s2 a (t2 a z),λa z w=>z.elim (λz=>dj a z (t2 a w)) λz=>dk a z w,?_,h2⟩;exact⟨E1,F1,λa z=>.inl z,λa z=>.inr z,λa z w=>dj a z (t1 a w),hA,h1⟩
  .rintro⟨D1,D2,s1,s2,dj,⟨E1,E2,t1,t2,dk,hA,h1⟩,h2⟩;refine⟨E1,λa=>E2 a\/D2 a,λa z=>s1 a (t1 a z),λa z=>z.elim (λz=>s1 a (t2 a z)) (s2 a),λa z w=>w.elim (dk a z) λw=>dj a (t1 a z) w,hA,?_⟩;exact ft.mpr ⟨E2,D2,λa z=>.inl z,λa z=>.inr z,λa z w=>dj a (t2 a z) w,h1,h2⟩
def Ea {f:α->List ar}(s:Sep (bx f::O) H):∃ x,Sep (f x++O) H:=by
 obtain⟨D,k,D1,D2,s1,s2,dj,⟨x,h1⟩,h2⟩:=s;exact⟨x,D,k,ft.mpr ⟨D1,D2,s1,s2,dj,h1,h2⟩⟩
def A5 {f:α->List ar}(x:α)(s:Sep (f x++O) H):Sep (bx f::O) H:=by
 obtain⟨D,k,h⟩:=s;obtain⟨D1,D2,s1,s2,dj,h1,h2⟩:=ft.mp h;exact⟨D,k,D1,D2,s1,s2,dj,⟨x,h1⟩,h2⟩
abbrev AD:List Str:=["here","there","left","way","sign","met"]
abbrev oq:V->Bool
 | v4 i=>decide (-1000000000<=i)&&decide (i<=1000000000)
 |_=>false
def nK {t:String}(ro:Ro K R)(hk:2<=k)(ht:tyName v H=some t)(q:Q (.bl (oq v)) H):ae tab R k 4 [v] H Q E:=by
 delta gR;right;refine cZ nofun ht ?_;cases md ht
 case int i=>
  left;refine aY rfl ?_;left;simp only[ro.g_BOUND];right;refine bK (λh0=>?_) (λh0=>?_)
  .left;simp only[ro.g_BOUND];right;have e:oq (v4 i)=decide (i<=1000000000):=by simp[oq,h0]
   rw[e]at q;exact q
  .right;have e:oq (v4 i)=false:=by simp[oq,h0]
   rw[e]at q;exact q
 all_goals
  right;exact q
def CK {j:Nat}{x:Str}(h:AD[j]? =some x):(j=0/\x="here")\/(j=1/\x="there")\/(j=2/\x="left")\/(j=3/\x="way")\/(j=4/\x="sign")\/(j=5/\x="met"):=by
 rcases j with _|_|_|_|_|_|j
 .cases h;exact .inl ⟨rfl,rfl⟩
 .cases h;exact .inr (.inl ⟨rfl,rfl⟩)
 .cases h;exact .inr (.inr (.inl ⟨rfl,rfl⟩))
 .cases h;exact .inr (.inr (.inr (.inl ⟨rfl,rfl⟩)))
 .cases h;exact .inr (.inr (.inr (.inr (.inl ⟨rfl,rfl⟩))))
 .cases h;exact .inr (.inr (.inr (.inr (.inr ⟨rfl,rfl⟩))))
 .exact absurd h (by simp[AD])
local macro_rules| `(tactic|walk_at "sc")=>`(tactic|first|(refine aY (by decide+kernel) ?_;walk_at "go")|(refine aL (by decide+kernel) ?_;walk_at "go"))
local macro_rules| `(tactic|walk_at "ag")=>`(tactic|first|refine gq (vs':=[_,_]) rfl ?_|refine gq (vs':=[_,_,_]) rfl ?_|refine gq (vs':=[_]) rfl ?_|refine gq (vs':=[_,_,_,_]) rfl ?_)
local macro_rules| `(tactic|walk_at "mt")=>`(tactic|first|((with_reducible refine' iJ Ob_bx ?s ?p ?m ?f ?_);(case s=>with_reducible assumption);(case p=>symm);(case m=>exact rfl);(case f=>exact rfl))|((with_reducible refine' iJ Ob_sto ?s ?p ?m ?f ?_);(case s=>with_reducible assumption);(case p=>symm);(case m=>exact rfl);(case f=>exact rfl)))
local macro_rules| `(tactic|walk_at "hq")=>`(tactic|((with_reducible (first|refine' ho_h ?r ?k ?s ?p ?_|refine' ho_t ?r ?k ?s ?p ?_|refine' ho_l ?r ?k ?s ?p ?_|refine' ho_w ?r ?k ?s ?p ?_|refine' ho_s ?r ?k ?s ?p ?_|refine' ho_m ?r ?k ?s ?p ?_));(case r=>with_reducible assumption);(case k=>exact nofun);(case s=>with_reducible assumption);(case p=>symm)))
local macro_rules| `(tactic|walk_at "gq")=>`(tactic|((with_reducible (first|refine' gi_h ?r ?k ?s ?p ?i (λH hs=>?_)|refine' gi_t ?r ?k ?s ?p ?i (λH hs=>?_)|refine' gi_l ?r ?k ?s ?p ?i (λH hs=>?_)|refine' gi_m ?r ?k ?s ?p ?i (λH hs=>?_)));(case r=>with_reducible assumption);(case k=>exact nofun);(case s=>with_reducible assumption);(case p=>ac_rfl);(case i=>omega)))
local macro_rules| `(tactic|walk_at "ws")=>`(tactic|(walk_at "w";repeat(first|(walk_at "st";walk_at "w")|(walk_at "mt";walk_at "w")|(walk_at "ag";(walk_at "hq");walk_at "w")|(walk_at "ag";(walk_at "gq");walk_at "w"))))
local macro_rules| `(tactic|walk_at "sc")=>`(tactic|first|(refine aY (by decide+kernel) ?_;walk_at "go")|(refine aL (by decide+kernel) ?_;walk_at "go"))
abbrev fk (n:Nat):List Nat:=(Nat.toDigits 10 n).map Char.toNat
def xJ:∀ d:Nat,d<10->(Nat.digitChar d).toNat=48+d:=by decide
def eK (h:n<10):fk n=[48+n]:=by
 unfold fk;rw[Nat.toDigits_of_lt_base h,List.map_singleton,xJ n h]
def fA (h:10<=n):fk n=fk (n / 10)++[48+n % 10]:=by
 have hm:n % 10<10:=Nat.mod_lt n (by decide);have t:Nat.toDigits 10 (n / 10)++Nat.toDigits 10 (n % 10)=Nat.toDigits 10 (10*(n / 10)+n % 10):=Nat.toDigits_append_toDigits (by decide) nofun hm;rw[Nat.div_add_mod]at t;rw[<-eK hm];unfold fk;rw[<-t,ge]
def dS:∀ {n:Nat},∃ c r,fk n=c::r/\48<=c:=by
 intro n
 induction n using Nat.strongRecOn with
 |_ n ih=>
  by_cases h:n<10
  .exact⟨_,_,eK h,by omega⟩
  .obtain⟨c,r,e,hc⟩:=ih (n / 10) nofun;exact⟨c,_,by rw[fA nofun,e];rfl,hc⟩
def zu (m:Nat):(Str.ofString (toString (m:Int))).cps.toList=fk m:=W.KIN.signs_num m
def xE (m:Nat):(Str.ofString (toString (Int.negSucc m))).cps.toList=45::fk (m+1):=by
 rw[PyProof.Rows.signs_ofString];show(("-"++Nat.repr (m+1)).toList).map Char.toNat=_;rw[String.toList_append,Nat.toList_repr,ge]
 rfl
abbrev bQ:Str:=⟨#[32]⟩
def join_cons {s x y:Str}:(Str.join s (x::y::r)).cps.toList=x.cps.toList++(s.cps.toList++(Str.join s (y::r)).cps.toList):=by
 show(x++s++Str.join s (y::r):Str).cps.toList=_;rw[W.KT.app_list,W.KT.app_list,li]
def vk {c:Nat}:∀ {a b s t:List Nat},c ∉ a->c ∉ b->a++c::s=b++c::t->a=b/\s=t
 | [],[],_,_,_,_,h=>⟨rfl,(List.cons.inj h).2⟩
 | [],y::b,_,_,_,hb,h=>absurd ((List.cons.inj h).1▸lw) hb
 |x::a,[],_,_,ha,_,h=>absurd ((List.cons.inj h).1▸lw) ha
 |x::a,y::b,_,_,ha,hb,h=>by
  obtain⟨e1,e2⟩:=List.cons.inj h;obtain⟨e3,e4⟩:=vk (λz=>ha (f8 _ z)) (λz=>hb (f8 _ z)) e2;exact⟨by rw[e1,e3],e4⟩
def mY {c:Nat}:∀ {ws vs:List Str},ws≠[]->vs≠[]->(∀ w ∈ ws,c ∉ w.cps.toList)->(∀ w ∈ vs,c ∉ w.cps.toList)->Str.join ⟨#[c]⟩ ws=Str.join ⟨#[c]⟩ vs->ws=vs
 | [],_,h,_,_,_,_=>absurd rfl h
 |_::_,[],_,h,_,_,_=>absurd rfl h
 | [x],[y],_,_,_,_,h=>by rw[show x=y from h]
 | [x],y::y2::r,_,_,h1,_,h=>by
  have e:=congrArg (λz:Str=>z.cps.toList) (show x=Str.join ⟨#[c]⟩ (y::y2::r) from h);have e:x.cps.toList=_:=e;rw[join_cons]at e;exact absurd (by rw[e];exact jp _ (mem_append_left _ lw)) (h1 x lw)
 |y::y2::r,[x],_,_,_,h1,h=>by
  have e:=congrArg (λz:Str=>z.cps.toList) (show Str.join ⟨#[c]⟩ (y::y2::r)=x from h);have e:_=x.cps.toList:=e;rw[join_cons]at e;exact absurd (by rw[<-e];exact jp _ (mem_append_left _ lw)) (h1 x lw)
 |x::x2::r,y::y2::t,_,_,h1,h2,h=>by
  have e:=congrArg (λz:Str=>z.cps.toList) h;have e:(Str.join ⟨#[c]⟩ (x::x2::r)).cps.toList=(Str.join ⟨#[c]⟩ (y::y2::t)).cps.toList:=e;rw[join_cons,join_cons]at e;obtain⟨e1,e2⟩:=vk (h1 x lw) (h2 y lw) e;have ih:=mY (c:=c) (ws:=x2::r) (vs:=y2::t) (λz=>nomatch z) (λz=>nomatch z) (λw hw=>h1 w (f8 _ hw)) (λw hw=>h2 w (f8 _ hw)) (PyProof.Rows.ext_toList e2);rw[PyProof.Rows.ext_toList e1,ih]
def lZ (x:Str)(c:Nat):Txt.split x ⟨#[c]⟩≠[]:=by
 intro h;have e:x=Str.empty:=(StrLaws.join_split x ⟨#[c]⟩).symm.trans (by rw[h];rfl);subst e;have h0:Txt.split Str.empty ⟨#[c]⟩=[Str.empty]:=if_pos (by rw[show decide (Str.empty.length<(⟨#[c]⟩:Str).length)=true from rfl,Bool.true_or]);rw[h0]at h;cases h
def ji {ws:List Str}(hn:ws≠[])(hf:∀ w ∈ ws,32 ∉ w.cps.toList):Txt.split (Txt.join bQ ws) bQ=ws:=by
 refine mY (c:=32) (lZ _ _) hn (StrLaws.split_free _ 32) hf ?_;show Str.join bQ (Txt.split (Txt.join bQ ws) bQ)=Str.join bQ ws;rw[StrLaws.join_split];exact StrLaws.glued_eq_join _ _
abbrev nw (i:Int):Str:=Str.ofString (toString i)
def d8 (n:Nat):PySem.NumText.AllDigits (fk n):=by
 induction n using Nat.strongRecOn with
 |_ n ih=>
  intro c hc
  by_cases h:n<10
  .rw[eK h]at hc;have:=mem_singleton.mp hc
   omega
  .rw[fA nofun]at hc;rcases mem_append.mp hc with hc|hc
   .exact ih (n / 10) nofun c hc
   .have:=mem_singleton.mp hc
    omega
def lG (n:Nat):fk n≠[]:=λh=>by
 obtain⟨c,r,e,_⟩:=dS (n:=n);rw[e]at h;cases h
def iH:∀ (k n:Nat),n<10 ^ (k+1)->(fk n).length<=k+1
 |0,n,h=>by rw[eK (by simpa using h)];exact s0 _
 |k+1,n,h=>by
  by_cases g:n<10
  .rw[eK g];exact Nat.succ_le_succ (Nat.zero_le _)
  .rw[fA nofun,db];have:=iH k (n / 10) (by rw[Nat.div_lt_iff_lt_mul (by decide)];rw[<-Nat.pow_succ];exact h);exact Nat.succ_le_succ this
def j7 (h:0<n):∀ c r,fk n=c::r->c≠48:=by
 induction n using Nat.strongRecOn with
 |_ n ih=>
  intro c r e
  by_cases g:n<10
  .rw[eK g]at e;have:=(List.cons.inj e).1
   omega
  .rw[fA nofun]at e;obtain⟨c',r',e',_⟩:=dS (n:=n / 10);rw[e']at e;rw[<-(List.cons.inj e).1];exact ih (n / 10) nofun nofun c' r' e'
def lN (m:Nat):(nw (m:Int)).cps.toList=fk m:=zu m
def kZ (m:Nat):(nw (Int.negSucc m)).cps.toList=45::fk (m+1):=xE m
def ff (h:i.natAbs<=1000000000):(nw i).length<=11/\1<=(nw i).length:=by
 have e:(nw i).length=(nw i).cps.toList.length:=Array.length_toList.symm;rw[e];cases i with
 |ofNat m=>
  have:=iH 9 m (by simp at h;omega);rw[show(nw (Int.ofNat m)).cps.toList=fk m from lN m];have:=length_pos_iff.mpr (lG m)
  omega
 |negSucc m=>
  have:=iH 9 (m+1) (by simp[Int.natAbs]at h;omega);rw[kZ,length_cons]
  omega
def cj:32 ∉ (nw i).cps.toList:=by
 intro h;cases i with
 |ofNat m=>
  rw[show(nw (Int.ofNat m)).cps.toList=fk m from lN m]at h;have:=d8 m _ h
  omega
 |negSucc m=>
  rw[kZ]at h;rcases mo.mp h with h|h
  .cases h
  .have:=d8 (m+1) _ h
   omega
def B7 (h:i.natAbs<=1000000000):PySem.intText? (nw i)=some i:=by
 have hl:=ff h;cases i with
 |ofNat m=>
  have e:(nw (Int.ofNat m)).cps.toList=fk m:=lN m;have:=PySem.intText_digits (x:=nw (Int.ofNat m)) (by rw[e];exact d8 m) (by rw[e];exact lG m) nofun;rw[this,e];exact congrArg (λz:Nat=>some (z:Int)) (W.KIN.val_back m)
 |negSucc m=>
  have:=PySem.intText_neg (x:=nw (Int.negSucc m)) (kZ m) (d8 (m+1)) (lG (m+1)) nofun;rw[this,show PySem.NumText.digitsVal (fk (m+1))=m+1 from W.KIN.val_back (m+1)]
  rfl
def mJ {r:Int}(h0:0<=r)(h1:r<xs.length)(h:∀ v ∈ xs,P v):∃ v,iB xs r=some v/\P v:=by
 obtain⟨v,hv,hm⟩:=nP h0 h1;exact⟨v,hv,h v hm⟩
abbrev inR (lo hi:Int)(v:V):Prop:=∃ i,v=v4 i/\lo<=i/\i<=hi
def inR.mk (h0:lo<=i)(h1:i<=hi):inR lo hi (v4 i):=⟨i,rfl,h0,h1⟩
def Gv {a b c:V}(ha:P a)(hb:P b)(hc:P c):∀ v ∈ [a,b,c],P v:=λv hv=>by
 simp only[mo,not_mem_nil,or_false]at hv;rcases hv with rfl|rfl|rfl<;>assumption
def GW {a b c d:V}(ha:P a)(hb:P b)(hc:P c)(hd:P d):∀ v ∈ [a,b,c,d],P v:=λv hv=>by
 simp only[mo,not_mem_nil,or_false]at hv;rcases hv with rfl|rfl|rfl|rfl<;>assumption
abbrev c8:Nat->jo->jo
 |0,b=>b
 |n+1,.cons _ r=>c8 n r
 |_+1,.nil=>.nil
abbrev Nm (w:Str):Prop:=(1<=w.length/\w.length<=8)/\∀ c ∈ w.cps.toList,97<=c/\c<=122
def EG {i j:Str}{b:Bool}(e:(!(Builtin.Str.occurrences j i 0 j.length 1).isEmpty)=b)(q:Q (.bl b) H):wZ K false (v6 i) (v6 j) H Q:=by unfold wZ;exact⟨i,rfl,by rw[if_neg (by decide),e];exact q⟩
def qj (hz:z.length<=100000)(q:Q (v4 z.length) H):jJ G .len [v6 z] H Q:=by unfold jJ;exact⟨_,z.length,rfl,⟨hW nofun,rfl⟩,q⟩
abbrev qD (c:Nat):Bool:=decide (48<=c)&&decide (c<=57)
abbrev kL:List Nat->List Nat
 |45::r=>r
 |l=>l
abbrev wJ (l F:List Nat):Bool:=decide (1<=F.length)&&(decide (F.length<=10)&&(F.all qD&&(decide (l=[48])|| !(F[0]? ==some 48))))
abbrev wK (w:Str):Bool:=wJ w.cps.toList (kL w.cps.toList)
abbrev xp:List Nat->Int
 |45::r=>-((PySem.NumText.digitsVal r:Nat):Int)
 |l=>((PySem.NumText.digitsVal l:Nat):Int)
abbrev vq (w:Str):Option Int:=if wK w then some (xp w.cps.toList) else none
abbrev iO:Option Int->V
 |some i=>v4 i
 |none=>wf
def qI {y:Str}(e:y=⟨#[c]⟩):Txt.startswith z y=(z.cps.toList[0]? ==some c):=by
 subst e;unfold Txt.startswith
 rw[Bool.eq_iff_iff,nb,decide_eq_true_eq,StrLaws.subAt_one,beq_iff_eq]
def tP {r:List Nat}(e:z.cps.toList=c::r):(iK z (some 1) none).cps.toList=r:=by
 have hl:z.length=r.length+1:=by
  have:z.cps.toList.length=z.length:=Array.length_toList;rw[<-this,e,length_cons]
 show((z.cps.toList.drop (HT.aS z.length 0 (some 1))).take (HT.aS z.length z.length none-HT.aS z.length 0 (some 1))).toArray.toList=r;have h1:HT.aS z.length 0 (some 1)=1:=by
  show(if(1:Int)<0 then((1:Int)+(z.length:Int)).toNat else min (1:Int).toNat z.length)=1;rw[if_neg (by decide)];have:(1:Int).toNat=1:=rfl
  omega
 rw[h1,show HT.aS z.length z.length none=z.length from rfl,e,List.drop_one,List.tail_cons,hl];exact take_of_length_le nofun
def E8:("0123456789":Str).cps.toList=[48,49,50,51,52,53,54,55,56,57]:=by decide+kernel
def yn (q:Q (.bl (qD c)) H):wZ K false (v6 ⟨#[c]⟩) (v6 ("0123456789":Str)) H Q:=by
 refine EG (b:=qD c) ?_ q;rw[StrLaws.found_one,E8];unfold qD;rw[Bool.eq_iff_iff,decide_eq_true_eq,nb,decide_eq_true_eq,decide_eq_true_eq];simp only[mo,not_mem_nil,or_false]
 omega
def dm (w:Str):w.length=w.cps.toList.length:=Array.length_toList.symm
def Ar {w f:Str}{F:List Nat}(ro:Ro K R)(z:Sep O H)(hfl:f.length<=100000)(hf:f.cps.toList=F)(q:∀ H',Sep O H'->Q (.bl (wJ w.cps.toList F)) H'):
  wB (c8 1 c5.body) ⟨tab,R,ae tab R (k-1),true⟩ { nx:=λ_ H'=>Q wf H',rt:=Q } (λ_=>E) [some (v6 w),some (v6 f)] H:=by
 have hl:f.length=F.length:=by rw[<-hf];exact dm f
 right;refine qj (z:=f) nofun ?_;right;refine bK (λg1=>?_) (λg1=>?_)
 rotate_left
 .right;refine cast (congrArg (λb=>Q (.bl b) H) ?_) (q _ z);unfold wJ;rw[decide_eq_false nofun]
  rfl
 right;simp only[ro.g_MOST_FIGURES];right;refine bK (λg2=>?_) (λg2=>?_)
 rotate_left
 .right;refine cast (congrArg (λb=>Q (.bl b) H) ?_) (q _ z);unfold wJ;rw[decide_eq_true nofun,decide_eq_false nofun]
  rfl
 right;refine u9 (z:=f) (by show f.length<=1000;omega) (λD ys H=>ys=(F.map λc=>V.bl (qD c)).take ys.length/\Sep (pt D (wl ys)::O) H) (λD hD=>⟨rfl,z.new (o:=wl []) hD⟩) (λD ys c H hc hI=>?_) (λD ys H hl2 hI=>?_)
 .obtain⟨e,z1⟩:=hI;have hcm:F[ys.length]? =some c:=by rw[<-hf,Array.getElem?_toList];exact hc
  right;simp only[ro.g_FIGURES];left;refine yn ?_;have hyl:ys.length<F.length:=(tz.mp hcm).1;refine oY.mk z1.at nofun ⟨?_,z1.set rfl⟩;rw[db,gt,List.take_add_one,<-e,le,hcm]
  rfl
 .obtain⟨e,z1⟩:=hI;rw[hl2,show f.cps.size=F.length from hl,take_of_length_le (by rw[cr];exact s0 _)]at e;subst e;left;refine o8 (bs:=F.map qD) (K:=K) rfl (by rw[z1.at,List.map_map];rfl) ?_;have z2:=z1.drop;rw[show(F.map qD).all id=F.all qD by rw[List.all_map];rfl]
  by_cases g3:F.all qD=true
  .rw[g3];right;have e0:wJ w.cps.toList F=(decide (w.cps.toList=[48])|| !(F[0]? ==some 48)):=by
    unfold wJ;rw[decide_eq_true nofun,decide_eq_true nofun,g3]
    rfl
   rw[e0]at q;have e1:jy (v6 w) (v6 (Str.ofString "0"))=decide (w.cps.toList=[48]):=by
    show(w ==Str.ofString "0")=_;rw[Bool.eq_iff_iff,beq_iff_eq,decide_eq_true_eq];refine⟨λe=>by rw[e];decide+kernel,λe=>PyProof.Rows.ext_toList (e.trans (by decide+kernel))⟩
   rw[e1]
   by_cases g4:w.cps.toList=[48]
   .rw[decide_eq_true g4]at q⊢;refine aY rfl ?_;right;exact q _ z2
   .rw[decide_eq_false g4]at q⊢;refine aL rfl ?_;right;refine⟨_,rfl,?_⟩;left;refine kr ?_;right;rw[qI (c:=48) (by decide+kernel),hf];exact q _ z2
  .have g3:F.all qD=false:=by simpa using g3
   rw[g3];right;refine cast (congrArg (λb=>Q (.bl b) H) ?_) (q _ z2);unfold wJ;rw[decide_eq_true nofun,decide_eq_true nofun,g3]
   rfl
def EB {w:Str}(ro:Ro K R)(hk:1<=k)(z:Sep O H)(hw:w.length<=100000)(q:∀ H',Sep O H'->Q (.bl (wK w)) H'):ae tab R k 34 [v6 w] H Q E:=by
 delta c5;right;refine⟨_,rfl,?_⟩;left;refine kr ?_;rw[qI (c:=45) (by decide+kernel)];unfold wK at q
 by_cases h:∃ r,w.cps.toList=45::r
 .obtain⟨r,e⟩:=h;have e2:=tP e;have e3:=jg w (some 1) none;rw[show(w.cps.toList[0]? ==some 45)=true by rw[e];rfl];refine aY rfl ?_;left;refine DM (z:=w) nofun ?_;left;refine Ar (w:=w) (k:=k) ro z nofun e2 (λH' z'=>?_);rw[show kL w.cps.toList=r by rw[e];rfl]at q;exact q H' z'
 .have g:(w.cps.toList[0]? ==some 45)=false:=beq_eq_false_iff_ne.mpr λe=>h (by
   cases hL:w.cps.toList with
   |nil=>rw[hL]at e;cases e
   |cons c r=>rw[hL]at e;exact⟨r,by rw[show c=45 from Option.some.inj e]⟩)
  rw[g];refine aL rfl ?_;left;refine Ar (w:=w) (f:=w) (k:=k) ro z hw rfl (λH' z'=>?_);have e:kL w.cps.toList=w.cps.toList:=by
   cases hL:w.cps.toList with
   |nil=>rfl
   |cons c r=>
    unfold kL
    split
    .rename_i hh;exact absurd ⟨_,hL.trans hh⟩ h
    .rfl
  rw[e]at q;exact q H' z'
def qx {w:Str}(h:wK w=true):PySem.intText? w=some (xp w.cps.toList)/\w.length<=11:=by
 have hlw:=dm w;unfold wK wJ at h;simp only[nb,decide_eq_true_eq]at h;obtain⟨h1,h2,h3,_⟩:=h;have ad:∀ F:List Nat,F.all qD=true->PySem.NumText.AllDigits F:=λF hF c hc=>by
  have:=all_eq_true.mp hF c hc;unfold qD at this;simpa using this
 by_cases g:∃ r,w.cps.toList=45::r
 .obtain⟨r,e⟩:=g;rw[e]at h1 h2 h3 hlw;have h1:1<=r.length:=h1;have h2:r.length<=10:=h2;rw[length_cons]at hlw;refine⟨?_,by omega⟩;rw[PySem.intText_neg e (ad r h3) (length_pos_iff.mp h1) nofun,e]
  rfl
 .have e:kL w.cps.toList=w.cps.toList/\xp w.cps.toList=((PySem.NumText.digitsVal w.cps.toList:Nat):Int):=by
   cases hL:w.cps.toList with
   |nil=>exact⟨rfl,rfl⟩
   |cons c r=>
    constructor
    .unfold kL
     split
     .rename_i hh;exact absurd ⟨_,hL.trans hh⟩ g
     .rfl
    .unfold xp
     split
     .rename_i hh;exact absurd ⟨_,hL.trans hh⟩ g
     .rfl
  rw[e.1]at h1 h2 h3;refine⟨?_,by omega⟩;rw[PySem.intText_digits (ad _ h3) (length_pos_iff.mp h1) nofun,e.2]
def xN {w:Str}(ro:Ro K R)(hk:2<=k)(z:Sep O H)(hw:w.length<=100000)(q:∀ H',Sep O H'->Q (iO (vq w)) H'):ae tab R k 35 [v6 w] H Q E:=by
 delta dU;right;refine bD ?_;right;refine EB ro nofun z hw λH1 z1=>?_
 unfold vq at q
 by_cases h:wK w=true
 .obtain⟨e1,e2⟩:=qx h;rw[h]at q⊢;right;refine xB (z:=w) e1 nofun ?_;right;exact q _ z1
 .have h:wK w=false:=by simpa using h
  rw[h]at q⊢;right;exact q _ z1
def Bx (hk:2<=k)(q:Q wf H):ae tab R k 35 [wf] H Q E:=by
 delta dU;right;refine bD ?_;right;exact q
abbrev bM (R:Rt)(dx q:Addr)(n:Nat):HO:=wp (R.cad 19) dx [("queue",v0 q),("at",v4 (n:Int))]
abbrev bT (ws:List Str):HO:=wl (ws.map v6)
def zQ {ws:List Str}{w:Str}(h:ws[n]? =some w):iB (ws.map v6) (n:Int)=some (v6 w):=by
 have hn:n<ws.length:=(tz.mp h).1;have e:uF ws.length (n:Int)=some n:=by unfold uF;simp;omega
 unfold iB;simp[h,cr,e]
def cB (hk:1<=k)(s:Sep (pt x (.exc (R.cad 2) none [] true)::O) H)(q:∀ d H',Sep (pt x (.exc (R.cad 2) (some d) [("at",v)] true)::pt d (.own x)::O) H'->Q wf H'):ae tab R k 1 [v0 x,v] H Q E:=by
 delta cn;right;refine⟨_,2,_,_,_,_,rfl,by grind,rfl,?_⟩;right;refine Dc s rfl rfl (λd H hs=>?_);right;exact q d H hs
abbrev wO:Option Str->V
 |some w=>v6 w
 |none=>wf
section
variable {a dx qa:Addr}{n:Nat}{ws:List Str}{w:Str}
def dw (hk:1<=k)(z:Sep (pt a (bM R dx qa n)::pt qa (bT ws)::O) H)(q:Q (wO ws[n]?) H):ae tab R k 37 [v0 a] H Q E:=by
 delta dr;have e1:=z.at;have e2:=(z.pull .k1).at;unfold bM at e1;unfold bT at e2;right;refine ak e1 rfl rfl rfl ?_;right;refine ak e1 rfl rfl rfl ?_;right;refine c7 e2 ?_;right
 by_cases hn:n<ws.length
 .obtain⟨w,hw⟩:∃ w,ws[n]? =some w:=⟨_,lv hn⟩;rw[hw]at q;refine aY (decide_eq_true (by rw[cr];omega)) ?_;right;refine ak e1 rfl rfl rfl ?_;right;refine ak e1 rfl rfl rfl ?_;right;refine eX e2 (zQ hw) ?_;right;exact q
 .rw[List.getElem?_eq_none nofun]at q;refine aL (decide_eq_false (by rw[cr];omega)) ?_;right;exact q
def lu (hk:1<=k)(z:Sep (pt a (bM R dx qa n)::pt qa (bT ws)::O) H)(hw:ws[n]? =some w)(q:∀ H',Sep (pt a (bM R dx qa (n+1))::pt qa (bT ws)::O) H'->Q (v6 w) H'):ae tab R k 38 [v0 a,.bl true] H Q E:=by
 delta cz;have e1:=z.at;have e2:=(z.pull .k1).at;unfold bM at e1;unfold bT at e2;right;refine ak e1 rfl rfl rfl ?_;right;refine ak e1 rfl rfl rfl ?_;right;refine eX e2 (zQ hw) ?_;right;refine ak e1 rfl rfl rfl ?_;right;refine BU z .e rfl rfl (by show 2<1000;omega) (fs':=[("queue",v0 qa),("at",v4 ((n+1:Nat):Int))]) ?_ λH1 z1=>?_
 .rfl
 right;exact q _ z1
def ck (hk:2<=k)(z:Sep (pt a (bM R dx qa n)::pt qa (bT ws)::O) H)(r:∀ e H',Sep (nz (R.cad 2) [("at",v4 (n:Int))] e false::O) H'->E e H'):ae tab R k 38 [v0 a,.bl false] H Q E:=by
 delta cz;have e1:=z.at;unfold bM at e1;have z1:=z.drop.drop;right;refine ak e1 rfl rfl rfl ?_;right;exact λe he=>cB nofun (z1.new he) (λd H3 hs3=>⟨rfl,pw (G:=⟨tab,R,ae tab R (k-1),true⟩) hs3 .e rfl (λH4 hs4=>r e H4 (vh hs4))⟩)
end
abbrev numAt (ws:List Str)(n:Nat):Option Int:=ws[n]?.bind vq
section
variable {a dx qa:Addr}{n:Nat}{ws:List Str}{w:Str}
def xg (ro:Ro K R)(hk:2<=k)(hs:∀ w ∈ ws,w.length<=100000) (z:Sep O H) (q:∀ H',Sep O H'->Q (iO (numAt ws n)) H'):ae tab R k 35 [wO ws[n]?] H Q E:=by
 unfold numAt at q;cases e:ws[n]? with
 |none=>
  rw[e]at q;exact Bx hk (q _ z)
 |some w=>
  rw[e]at q;exact xN ro hk z (hs w (dl e)) q
def tZ (h:numAt ws n=some i):∃ w,ws[n]? =some w:=by
 unfold numAt at h;cases e:ws[n]? with
 |none=>rw[e]at h;cases h
 |some w=>exact⟨w,rfl⟩
def pd (ro:Ro K R)(hk:3<=k)(hs:∀ w ∈ ws,w.length<=100000) (z:Sep (pt a (bM R dx qa n)::pt qa (bT ws)::O) H)
  (q:∀ i H',numAt ws n=some i->lo<=i->i<=hi->Sep (pt a (bM R dx qa (n+1))::pt qa (bT ws)::O) H'->Q (v4 i) H')
  (r:(∀ i,numAt ws n=some i->¬ (lo<=i/\i<=hi))->∀ e H',Sep (nz (R.cad 2) [("at",v4 (n:Int))] e false::O) H'->E e H'):ae tab R k 43 [v0 a,v4 lo,v4 hi] H Q E:=by
 delta bJ;right;refine⟨_,19,_,_,_,rfl,z.at,rfl,rfl,?_⟩;right;refine dw nofun z ?_;right;refine xg ro nofun hs z λH1 z1=>?_
 cases e:numAt ws n with
 |none=>
  right;refine⟨_,19,_,_,_,rfl,z1.at,rfl,rfl,?_⟩;right;refine bD ?_;right;exact ck nofun z1 (r λi h=>by rw[e]at h;cases h)
 |some i=>
  obtain⟨w,hw⟩:=tZ e;right;refine⟨_,19,_,_,_,rfl,z1.at,rfl,rfl,?_⟩;right;refine bD ?_;right;refine bK (λh1=>?_) (λh1=>?_)
  .right
   by_cases h2:i<=hi
   .have e2:((λ(i j:Int)=>decide (i<=j)) i hi)=true:=decide_eq_true h2;rw[e2];refine lu nofun z1 hw λH2 z2=>?_
    right;exact q i _ e h1 h2 z2
   .have e2:((λ(i j:Int)=>decide (i<=j)) i hi)=false:=decide_eq_false h2;rw[e2];exact ck nofun z1 (r λj h hh=>by rw[e]at h;cases h;exact h2 hh.2)
  .right;exact ck nofun z1 (r λj h hh=>by rw[e]at h;cases h;exact h1 hh.1)
end
section
variable {a dx qa:Addr}{n:Nat}{ws:List Str}{w:Str}
abbrev isAt (ws:List Str)(n:Nat)(w:Str):Bool:=decide (ws[n]? =some w)
def Ad {o:Option Str}:jy (wO o) (v6 w)=decide (o=some w):=by
 cases o with
 |none=>rfl
 |some v=>
  show(v ==w)=_;rw[Bool.eq_iff_iff,beq_iff_eq,decide_eq_true_eq];exact⟨λe=>by rw[e],λe=>Option.some.inj e⟩
def qr {o:Option Str}:aM (wO o)=true:=by cases o<;>rfl
def aI (hk:2<=k)(z:Sep (pt a (bM R dx qa n)::pt qa (bT ws)::O) H)
  (q:∀ H',isAt ws n w=true->Sep (pt a (bM R dx qa (n+1))::pt qa (bT ws)::O) H'->Q (.bl true) H') (q2:isAt ws n w=false->Q (.bl false) H):ae tab R k 39 [v0 a,v6 w] H Q E:=by
 delta dX;have e1:=z.at;unfold bM at e1;right;refine⟨_,19,_,_,_,rfl,z.at,rfl,rfl,?_⟩;right;refine dw nofun z ?_;refine rg qr rfl ?_;rw[Ad];unfold isAt at q q2
 by_cases h:ws[n]? =some w
 .rw[decide_eq_true h]at q⊢;right;refine ak e1 rfl rfl rfl ?_;right;refine BU z .e rfl rfl (by show 2<1000;omega) (fs':=[("queue",v0 qa),("at",v4 ((n+1:Nat):Int))]) ?_ λH1 z1=>?_
  .rfl
  right;exact q _ rfl z1
 .rw[decide_eq_false h]at q2⊢;right;exact q2 rfl
def eZ (hk:3<=k)(z:Sep (pt a (bM R dx qa n)::pt qa (bT ws)::O) H)
  (q:∀ H',isAt ws n w=true->Sep (pt a (bM R dx qa (n+1))::pt qa (bT ws)::O) H'->Q (v6 w) H')
  (r:isAt ws n w=false->∀ e H',Sep (nz (R.cad 2) [("at",v4 (n:Int))] e false::O) H'->E e H'):ae tab R k 40 [v0 a,v6 w] H Q E:=by
 delta bU;right;refine⟨_,19,_,_,_,rfl,z.at,rfl,rfl,?_⟩;right;refine⟨_,19,_,_,_,rfl,z.at,rfl,rfl,?_⟩;right;refine dw nofun z ?_;refine b6 qr rfl ?_;rw[Ad];unfold isAt at q r
 by_cases h:ws[n]? =some w
 .rw[decide_eq_true h]at q⊢;right;refine lu nofun z h λH1 z1=>?_
  right;exact q _ rfl z1
 .rw[decide_eq_false h]at r⊢;right;exact ck nofun z (r rfl)
end
abbrev gr:V->Bool
 | v6 x=>Ai (v6 x) (AD.map v6)
 |_=>false
def kR {t:String}(ro:Ro K R)(hk:1<=k)(ht:tyName v H=some t)(q:Q (.bl (gr v)) H):ae tab R k 3 [v] H Q E:=by
 delta mx;right;obtain⟨a,hg,hs⟩:=ro.g_NAMES;have hs':=hs H;rw[<-ro.hK]at hs';cases md ht
 case str x=>
  refine j6 ht rfl ?_;left;refine aY rfl ?_;left;simp only[hg];right;exact Fg hs' rfl rfl q
 all_goals
  refine j6 ht rfl ?_;right;exact q
def we {j:Nat}{x:Str}(hj:AD[j]? =some x):gr (v6 x)=true:=by
 rcases CK hj with⟨rfl,rfl⟩|⟨rfl,rfl⟩|⟨rfl,rfl⟩|⟨rfl,rfl⟩|⟨rfl,rfl⟩|⟨rfl,rfl⟩<;>rfl
abbrev isA (c:Nat):Bool:=decide (97<=c)&&decide (c<=122)
abbrev pq (w:Str):Bool:=decide (1<=w.length)&&(decide (w.length<=8)&&w.cps.toList.all isA)
def DG:("abcdefghijklmnopqrstuvwxyz":Str).cps.toList=[97,98,99,100,101,102,103,104,105,106,107,108,109,110,111,112,113,114,115,116,117,118,119,120,121,122]:=by decide+kernel
def A9 (q:Q (.bl (isA c)) H):wZ K false (v6 ⟨#[c]⟩) (v6 ("abcdefghijklmnopqrstuvwxyz":Str)) H Q:=by
 refine EG (b:=isA c) ?_ q;rw[StrLaws.found_one,DG];unfold isA;rw[Bool.eq_iff_iff,decide_eq_true_eq,nb,decide_eq_true_eq,decide_eq_true_eq];simp only[mo,not_mem_nil,or_false]
 omega
def se {w:Str}(ro:Ro K R)(hk:1<=k)(hw:w.length<=100000)(z:Sep O H)(q:∀ H',Sep O H'->Q (.bl (pq w)) H'):ae tab R k 33 [v6 w] H Q E:=by
 have hz:w.cps.size=w.length:=rfl;delta gm;right;refine qj (z:=w) nofun ?_;right;refine bK (λg1=>?_) (λg1=>?_)
 rotate_left
 .right;refine cast (congrArg (λb=>Q (.bl b) H) ?_) (q _ z);unfold pq;rw[decide_eq_false nofun]
  rfl
 right;simp only[ro.g_LONGEST_NAME];right;refine bK (λg2=>?_) (λg2=>?_)
 rotate_left
 .right;refine cast (congrArg (λb=>Q (.bl b) H) ?_) (q _ z);unfold pq;rw[decide_eq_true nofun,decide_eq_false nofun]
  rfl
 right;refine u9 (z:=w) nofun (λD ys H=>ys=(w.cps.toList.map λc=>V.bl (isA c)).take ys.length/\Sep (pt D (wl ys)::O) H) (λD hD=>⟨rfl,z.new (o:=wl []) hD⟩) (λD ys c H hc hI=>?_) (λD ys H hl hI=>?_)
 .obtain⟨e,z1⟩:=hI;have hcm:w.cps.toList[ys.length]? =some c:=by rw[Array.getElem?_toList];exact hc
  have hyl:ys.length<w.cps.size:=(Array.getElem?_eq_some_iff.mp hc).1;right;simp only[ro.g_LETTERS];left;refine A9 ?_;refine oY.mk z1.at nofun ⟨?_,z1.set rfl⟩;rw[db,gt,List.take_add_one,<-e,le,hcm]
  rfl
 .obtain⟨e,z1⟩:=hI;rw[hl,take_of_length_le (by rw[cr,Array.length_toList];exact s0 _)]at e;subst e;left;refine o8 (bs:=w.cps.toList.map isA) (K:=K) rfl (by rw[z1.at,List.map_map];rfl) ?_;refine cast (congrArg (λb=>Q (.bl b) H) ?_) (q _ z1.drop);unfold pq;rw[decide_eq_true nofun,decide_eq_true nofun,List.all_map]
  rfl
def rC (hk:1<=k)(q:Q (.bl false) H):ae tab R k 33 [wf] H Q E:=by
 delta gm;right;exact q
section
variable {a dx qa:Addr}{n:Nat}{ws:List Str}{w:Str}
def nU (ro:Ro K R)(hk:3<=k)(hs:∀ w ∈ ws,w.length<=100000) (z:Sep (pt a (bM R dx qa n)::pt qa (bT ws)::O) H)
  (q:∀ w H',ws[n]? =some w->pq w=true->Sep (pt a (bM R dx qa (n+1))::pt qa (bT ws)::O) H'->Q (v6 w) H')
  (r:(ws[n]?).any pq=false->∀ e H',Sep (nz (R.cad 2) [("at",v4 (n:Int))] e false::O) H'->E e H'):ae tab R k 41 [v0 a] H Q E:=by
 delta bV;right;refine⟨_,19,_,_,_,rfl,z.at,rfl,rfl,?_⟩;right;refine⟨_,19,_,_,_,rfl,z.at,rfl,rfl,?_⟩;right;refine dw nofun z ?_;right;cases e:ws[n]? with
 |none=>
  refine rC nofun ?_;right;exact ck nofun z (r (by rw[e];rfl))
 |some w=>
  refine se ro nofun (hs w (dl e)) z λH1 z1=>?_
  by_cases g:pq w=true
  .rw[g];right;refine lu nofun z1 e λH2 z2=>?_
   right;exact q w _ e g z2
  .have g:pq w=false:=by simpa using g
   rw[g];right;exact ck nofun z1 (r (by rw[e];exact g))
def sP (ro:Ro K R)(hk:3<=k)(z:Sep (pt a (bM R dx qa n)::pt qa (bT ws)::O) H)
  (q:∀ w H',ws[n]? =some w->gr (v6 w)=true->Sep (pt a (bM R dx qa (n+1))::pt qa (bT ws)::O) H'->Q (v6 w) H')
  (r:gr (wO ws[n]?)=false->∀ e H',Sep (nz (R.cad 2) [("at",v4 (n:Int))] e false::O) H'->E e H'):ae tab R k 42 [v0 a] H Q E:=by
 delta cf;right;refine⟨_,19,_,_,_,rfl,z.at,rfl,rfl,?_⟩;right;refine⟨_,19,_,_,_,rfl,z.at,rfl,rfl,?_⟩;right;refine dw nofun z ?_;right;cases e:ws[n]? with
 |none=>
  refine kR ro nofun (t:="NoneType") rfl ?_;rw[e]at r
  by_cases g:gr (wO none)=true
  .cases g
  .have g:gr (wO none)=false:=by simpa using g
   rw[show gr (wO none)=false from g];right;exact ck nofun z (r g)
 |some w=>
  rw[e]at r;refine kR ro nofun (t:="str") rfl ?_
  by_cases g:gr (v6 w)=true
  .rw[show gr (wO (some w))=true from g];right;refine lu nofun z e λH2 z2=>?_
   right;exact q w _ e g z2
  .have g:gr (v6 w)=false:=by simpa using g
   rw[show gr (wO (some w))=false from g];right;exact ck nofun z (r g)
end
abbrev Ob (R:Rt)(A:ar)(b:Addr)(i:Nat)(fl:List Str):Prop:=∀ H D,A.p H D->∃ dx fs,H b=some (wp (R.cad i) dx fs)/\fs.map (·.1)=fl
def qu {m:Str}:∀ {fs:List (Str×V)},(fs.map (·.1)).all (λx=>!(m ==x))=true->fs.lookup m=none
 | [],_=>rfl
 |(x,v)::fs,h=>by
  simp only[map_cons,all_cons,nb]at h;have h1:(m ==x)=false:=by simpa using h.1
  rw[lookup_cons,h1];exact qu h.2
def iJ {A:ar}{b:Addr}{i f:Nat}{fl:List Str}{m:Str}{X:Nat->Prop}(o:Ob G.R A b i fl)(s:Sep O H)(p:au A O Δ)(hm:fl.all (λx=>!(m ==x))=true) (hf:G.T.me.lookup (i,m)=some f) (h:X f):
  ∃ p' i' dx fs f',v0 b=v0 p'/\H p'=some (wp (G.R.cad i') dx fs)/\fs.lookup m=none/\G.T.me.lookup (i',m)=some f'/\X f':=by
 obtain⟨D,k,D1,D2,s1,s2,dj,h1,h2⟩:=s.pull p;obtain⟨dx,fs,e1,e2⟩:=o H D1 h1;exact⟨b,i,dx,fs,f,rfl,e1,qu (e2▸hm),hf,h⟩
def gq {T:Tab}{f:Nat}{vs':List V}(e:vs=vs')(h:ae T R k f vs' H Q E):ae T R k f vs H Q E:=e▸h
abbrev dd (R:Rt)(d:Addr)(c:Nat):ar:=bx λdx:Addr=>[pt d (wp (R.cad c) dx []),pt dx (.own d)]
def Em (s:Sep (pt d (wp (R.cad c) dx [])::pt dx (.own d)::O) H):Sep (dd R d c::O) H:=A5 dx s
def En:Ob R (dd R d c) d c []:=by
 rintro H D ⟨dx,D1,D2,_,_,_,⟨_,h⟩,_⟩;exact⟨dx,_,h,rfl⟩
inductive Wd where
 |copy|fill|seek|mtch|shift|turn
abbrev Wd.s:Wd->Str
 | .copy=>"copy"
 | .fill=>"fill"
 | .seek=>"seek"
 | .mtch=>"match"
 | .shift=>"shift"
 | .turn=>"turn"
abbrev Wd.cl:Wd->Nat
 | .copy=>13
 | .fill=>14
 | .seek=>15
 | .mtch=>16
 | .shift=>17
 | .turn=>18
inductive Bn where
 |h
 |t
 |l
 |w
 |s
 |m
abbrev Bn.j:Bn->Nat
 | .h=>0
 | .t=>1
 | .l=>2
 | .w=>3
 | .s=>4
 | .m=>5
abbrev Bn.nm:Bn->Str
 | .h=>"here"
 | .t=>"there"
 | .l=>"left"
 | .w=>"way"
 | .s=>"sign"
 | .m=>"met"
def Bn.at (b:Bn):AD[b.j]? =some b.nm:=by cases b<;>rfl
def zF {r:Int}(h0:0<=r)(h1:r<6):∃ b:Bn,iB [v6 "here",v6 "there",v6 "left",v6 "way",v6 "sign",v6 "met"] r=some (v6 b.nm):=by
 have:r=0\/r=1\/r=2\/r=3\/r=4\/r=5:=by omega
 rcases this with rfl|rfl|rfl|rfl|rfl|rfl
 .exact⟨.h,rfl⟩
 .exact⟨.t,rfl⟩
 .exact⟨.l,rfl⟩
 .exact⟨.w,rfl⟩
 .exact⟨.s,rfl⟩
 .exact⟨.m,rfl⟩
inductive Sp where
 |set (b:Bn) (i:Int)
 |add (b:Bn) (i:Int)
 |take (b c:Bn)
 |read (b:Bn)
 |write (b:Bn)
abbrev Sp.w:Sp->Str
 | .set _ _=>"set"
 | .add _ _=>"add"
 | .take _ _=>"take"
 | .read _=>"read"
 | .write _=>"write"
abbrev Sp.tl:Sp->List V
 | .set b i=>[v6 "set",v6 b.nm,v4 i]
 | .add b i=>[v6 "add",v6 b.nm,v4 i]
 | .take b c=>[v6 "take",v6 b.nm,v6 c.nm]
 | .read b=>[v6 "read",v6 b.nm]
 | .write b=>[v6 "write",v6 b.nm]
abbrev Sp.cl:Sp->Nat
 | .set _ _=>4
 | .add _ _=>5
 | .take _ _=>6
 | .read _=>7
 | .write _=>8
abbrev Sp.fs:Sp->List (Str×V)
 | .set b i=>[("box",v6 b.nm),("number",v4 i)]
 | .add b i=>[("box",v6 b.nm),("number",v4 i)]
 | .take b c=>[("box",v6 b.nm),("other",v6 c.nm)]
 | .read b=>[("box",v6 b.nm)]
 | .write b=>[("box",v6 b.nm)]
abbrev Sp.ok:Sp->Prop
 | .set _ i=>-1000000000<=i/\i<=1000000000
 | .add _ i=>-1000000000<=i/\i<=1000000000
 |_=>True
abbrev sd (R:Rt)(d:Addr)(sp:Sp):ar:=bx λdx:Addr=>[pt d (wp (R.cad sp.cl) dx sp.fs),pt dx (.own d)]
def wt (s:Sep (pt d (wp (R.cad sp.cl) dx sp.fs)::pt dx (.own d)::O) H):Sep (sd R d sp::O) H:=A5 dx s
def Dz (s:Sep O H)(p:au (sd R d sp) O Δ):∃ dx,H d=some (wp (R.cad sp.cl) dx sp.fs):=by
 obtain⟨dx,s⟩:=Ea (s.pull p);exact⟨dx,Sep.at s⟩
def Eu:Ob R (sd R d sp) d sp.cl (sp.fs.map (·.1)):=by
 rintro H D ⟨dx,D1,D2,_,_,_,⟨_,h⟩,_⟩;exact⟨dx,_,h,rfl⟩
def a8 {w:Str}{n:Bn}(ro:Ro K R)(hk:2<=k)(q:Q wf H):ae tab R k 5 [v6 w,v6 n.nm] H Q E:=by
 delta gJ;right;refine kR (t:="str") ro nofun rfl ?_;rw[we n.at];right;exact q
def dJ {w:Str}(ro:Ro K R)(hk:3<=k)(h0: -1000000000<=i)(h1:i<=1000000000)(q:Q wf H):ae tab R k 6 [v6 w,v4 i] H Q E:=by
 delta dM;right;refine nK (t:="int") ro nofun rfl ?_;rw[show oq (v4 i)=true by simp[oq,h0,h1]];right;exact q
def zX {n:Bn}(ro:Ro K R)(hk:4<=k)(h0: -1000000000<=i)(h1:i<=1000000000)(z:Sep (pt x (wp (R.cad 4) dx [])::pt dx (.own x)::O) H)(q:∀ H',Sep (sd R x (.set n i)::O) H'->Q wf H'):ae tab R k 7 [v0 x,v6 n.nm,v4 i] H Q E:=by
 delta dI;right;refine a8 ro nofun ?_;right;refine dJ ro nofun h0 h1 ?_;right;exact q _ (wt (by assumption))
def Ao {n:Bn}(ro:Ro K R)(hk:4<=k)(h0: -1000000000<=i)(h1:i<=1000000000)(z:Sep (pt x (wp (R.cad 5) dx [])::pt dx (.own x)::O) H)(q:∀ H',Sep (sd R x (.add n i)::O) H'->Q wf H'):ae tab R k 9 [v0 x,v6 n.nm,v4 i] H Q E:=by
 delta du;right;refine a8 ro nofun ?_;right;refine dJ ro nofun h0 h1 ?_;right;exact q _ (wt (by assumption))
def zW {n m:Bn}(ro:Ro K R)(hk:4<=k)(z:Sep (pt x (wp (R.cad 6) dx [])::pt dx (.own x)::O) H)(q:∀ H',Sep (sd R x (.take n m)::O) H'->Q wf H'):ae tab R k 11 [v0 x,v6 n.nm,v6 m.nm] H Q E:=by
 delta c9;right;refine a8 ro nofun ?_;right;refine a8 ro nofun ?_;right;exact q _ (wt (by assumption))
def zG {n:Bn}(ro:Ro K R)(hk:4<=k)(z:Sep (pt x (wp (R.cad 7) dx [])::pt dx (.own x)::O) H)(q:∀ H',Sep (sd R x (.read n)::O) H'->Q wf H'):ae tab R k 13 [v0 x,v6 n.nm] H Q E:=by
 delta dc;right;refine a8 ro nofun ?_;right;exact q _ (wt (by assumption))
def zU {n:Bn}(ro:Ro K R)(hk:4<=k)(z:Sep (pt x (wp (R.cad 8) dx [])::pt dx (.own x)::O) H)(q:∀ H',Sep (sd R x (.write n)::O) H'->Q wf H'):ae tab R k 15 [v0 x,v6 n.nm] H Q E:=by
 delta cD;right;refine a8 ro nofun ?_;right;exact q _ (wt (by assumption))
abbrev i5:V->Bool
 | v4 i=>decide (0<=i)&&decide (i<=24)
 |_=>false
abbrev C6:V->Bool
 | wf=>true
 | v4 i=>i ==0||i ==1
 |_=>false
def sj {t:String}(ro:Ro K R)(hk:2<=k)(ht:tyName v H=some t)(q:Q (.bl (i5 v)) H):ae tab R k 17 [v] H Q E:=by
 delta kz;right;refine cZ nofun ht ?_;cases md ht
 case int i=>
  right;refine bK (λh0=>?_) (λh0=>?_)
  .left;simp only[ro.g_MOST_HOPPED];right;rw[show i5 (v4 i)=decide (i<=24) by simp[i5,h0]]at q;exact q
  .right;rw[show i5 (v4 i)=false by simp[i5,h0]]at q;exact q
 all_goals
  right;exact q
def xX {t:String}(hk:2<=k)(ht:tyName v H=some t)(q:Q (.bl (C6 v)) H):ae tab R k 18 [v] H Q E:=by
 delta qy;right;refine pA ?_;cases md ht
 case int i=>
  left;refine aL rfl ?_;right;refine cZ (t:="int") nofun rfl ?_;right;refine gQ (λh0=>?_) (λh0=>?_)
  .right;rw[show C6 (v4 i)=true by simp[C6,h0]]at q;exact q
  .right;rw[show C6 (v4 i)=(i ==1) by simp[C6,h0]]at q;exact q
 case non=>
  left;refine aY rfl ?_;exact q
 all_goals
  left;refine aL rfl ?_;right;refine cZ nofun ht ?_;right;exact q
abbrev oV:Option Int->V
 |none=>wf
 |some i=>v4 i
abbrev Bs:Option Int->Prop
 |none=>True
 |some i=>i=0\/i=1
abbrev CT (R:Rt)(d:Addr)(n:Int)(o:Option Int):ar:=bx λdx:Addr=>[pt d (wp (R.cad 9) dx [("many",v4 n),("on",oV o)]),pt dx (.own d)]
def Fe {n:Int}(s:Sep (pt d (wp (R.cad 9) dx [("many",v4 n),("on",oV o)])::pt dx (.own d)::O) H):Sep (CT R d n o::O) H:=A5 dx s
def zN {n:Int}(s:Sep O H)(p:au (CT R d n o) O Δ):∃ dx,H d=some (wp (R.cad 9) dx [("many",v4 n),("on",oV o)]):=by
 obtain⟨dx,s⟩:=Ea (s.pull p);exact⟨dx,Sep.at s⟩
def Ek {n:Int}:Ob R (CT R d n o) d 9 ["many","on"]:=by
 rintro H D ⟨dx,D1,D2,_,_,_,⟨_,h⟩,_⟩;exact⟨dx,_,h,rfl⟩
def vI {n:Int}(ro:Ro K R)(hk:4<=k)(h0:0<=n)(h1:n<=24)(ho:Bs o)(z:Sep (pt x (wp (R.cad 9) dx [])::pt dx (.own x)::O) H)(q:∀ H',Sep (CT R x n o::O) H'->Q wf H'):ae tab R k 19 [v0 x,v4 n,oV o] H Q E:=by
 delta dB;right;refine sj (t:="int") ro nofun rfl ?_;rw[show i5 (v4 n)=true by simp[i5,h0,h1]];right;obtain⟨t,ht⟩:∃ t,tyName (oV o) H=some t:=by cases o<;>exact⟨_,rfl⟩
 refine xX nofun ht ?_;rw[show C6 (oV o)=true by cases o with|none=>rfl|some i=>rcases ho with rfl|rfl<;>rfl];right;exact q _ (Fe (by assumption))
inductive Rw where
 |lg (w:Wd)
 |sp (s:Sp)
 |hop (n:Int) (o:Option Int)
abbrev Rw.tl:Rw->List V
 | .lg w=>[v6 w.s]
 | .sp s=>s.tl
 | .hop n o=>[v6 "hop",v4 n,oV o]
abbrev Rw.ok:Rw->Prop
 | .lg _=>True
 | .sp s=>s.ok
 | .hop n o=>(0<=n/\n<=24)/\Bs o
abbrev Rw.cl:Rw->Nat
 | .lg w=>w.cl
 | .sp s=>s.cl
 | .hop _ _=>9
abbrev tH (R:Rt)(d:Addr):Rw->ar
 | .lg w=>dd R d w.cl
 | .sp s=>sd R d s
 | .hop n o=>CT R d n o
abbrev Rw.fs:Rw->List Str
 | .lg _=>[]
 | .sp s=>s.fs.map (·.1)
 | .hop _ _=>["many","on"]
def t9 (r:Rw):Ob R (tH R d r) d r.cl r.fs:=by
 cases r with
 |lg w=>exact En
 |sp s=>exact Eu
 |hop n o=>exact Ek
def Ed {r:Rw}(z:Sep O H)(p:au (tH R d r) O Δ):∃ dx fs,H d=some (wp (R.cad r.cl) dx fs):=by
 obtain⟨D,k,D1,D2,s1,s2,dj,h1,h2⟩:=z.pull p;obtain⟨dx,fs,e,_⟩:=t9 r H D1 h1;exact⟨dx,fs,e⟩
def rL (wd:Wd):∃ f,tab.me.lookup (wd.cl,("words":Str))=some f/\(∀ R Ψ,dflt ⟨tab,R,Ψ,true⟩ f 1=[])/\∀ {R:Rt}{k:Nat}{v:V}{O:List ar}{H:Hp}{Q:VK}{E:XK},1<=k->Sep O H->(∀ p H',Sep (pt p (wl [v6 wd.s])::O) H'->Q (v0 p) H')->ae tab R k f [v] H Q E:=by
 cases wd
 .exact⟨27,rfl,λ_ _=>rfl,λhk z q=>wc (d:=fL) nofun rfl rfl (by left;exact fc z (by decide) q)⟩
 .exact⟨28,rfl,λ_ _=>rfl,λhk z q=>wc (d:=fE) nofun rfl rfl (by left;exact fc z (by decide) q)⟩
 .exact⟨29,rfl,λ_ _=>rfl,λhk z q=>wc (d:=gd) nofun rfl rfl (by left;exact fc z (by decide) q)⟩
 .exact⟨30,rfl,λ_ _=>rfl,λhk z q=>wc (d:=eE) nofun rfl rfl (by left;exact fc z (by decide) q)⟩
 .exact⟨31,rfl,λ_ _=>rfl,λhk z q=>wc (d:=eo) nofun rfl rfl (by left;exact fc z (by decide) q)⟩
 .exact⟨32,rfl,λ_ _=>rfl,λhk z q=>wc (d:=fR) nofun rfl rfl (by left;exact fc z (by decide) q)⟩
def kU (h0: -1000000000<=i)(h1:i<=1000000000)(q:Q (v6 (toString i)) H):jJ G .str [v4 i] H Q:=by
 unfold jJ;refine .inl ⟨i,rfl,?_,q⟩;rcases Nat.eq_zero_or_pos i.natAbs with e|e
 .rw[e];decide
 .exact pc ((Nat.log2_lt nofun).mpr (show i.natAbs<2 ^ 30 by omega)) (by decide)
def yu (q:Q (v6 z) H):jJ G .str [v6 z] H Q:=by unfold jJ;exact .inr ⟨z,rfl,q⟩
abbrev Sp.ws:Sp->List Str
 | .set b i=>["set",b.nm,toString i]
 | .add b i=>["add",b.nm,toString i]
 | .take b c=>["take",b.nm,c.nm]
 | .read b=>["read",b.nm]
 | .write b=>["write",b.nm]
def v8 {f:Nat}(hk:1<=k)(ok:sp.ok)(hf:tab.me.lookup (sp.cl,("words":Str))=some f) (z:Sep O H) (p:au (sd R d sp) O Δ) (q:∀ p H',Sep (pt p (wl (sp.ws.map v6))::O) H'->Q (v0 p) H'):ae tab R k f [v0 d] H Q E:=by
 obtain⟨dx,e⟩:=Dz z p;cases sp with
 |set n i=>
  have hf:some 8=some f:=hf;cases hf;delta gW;right;refine ak e rfl rfl rfl ?_;right;refine ak e rfl rfl rfl ?_;left;refine kU ok.1 ok.2 ?_;right;rename_i p H1 z1;exact q p H1 z1
 |add n i=>
  have hf:some 10=some f:=hf;cases hf;delta g8;right;refine ak e rfl rfl rfl ?_;right;refine ak e rfl rfl rfl ?_;left;refine kU ok.1 ok.2 ?_;right;rename_i p H1 z1;exact q p H1 z1
 |take n m=>
  have hf:some 12=some f:=hf;cases hf;delta fZ;right;refine ak e rfl rfl rfl ?_;right;refine ak e rfl rfl rfl ?_;right;rename_i p H1 z1;exact q p H1 z1
 |read n=>
  have hf:some 14=some f:=hf;cases hf;delta fM;right;refine ak e rfl rfl rfl ?_;right;rename_i p H1 z1;exact q p H1 z1
 |write n=>
  have hf:some 16=some f:=hf;cases hf;delta en;right;refine ak e rfl rfl rfl ?_;right;rename_i p H1 z1;exact q p H1 z1
abbrev u1 (n:Int)(o:Option Int):List V:=match o with
 |none=>[v6 "hop",v6 (toString n)]
 |some i=>[v6 "hop",v6 (toString n),v6 "if",v6 (toString i)]
def qT (h:i.natAbs<=1000)(q:Q (v6 (toString i)) H):jJ G .str [v4 i] H Q:=by
 unfold jJ;exact .inl ⟨i,rfl,Nat.lt_of_le_of_lt (Nat.log2_le_self _) nofun,q⟩
def vt {n:Int}(hk:1<=k)(h0:0<=n)(h1:n<=24)(ho:Bs o)(z:Sep O H)(p:au (CT R d n o) O Δ)(q:∀ l H',Sep (pt l (wl (u1 n o))::O) H'->Q (v0 l) H'):ae tab R k 20 [v0 d] H Q E:=by
 delta gP;obtain⟨dx,e⟩:=zN z p;right;refine ak e rfl rfl rfl ?_;left;refine qT nofun ?_;right;rename_i l H1 z1;obtain⟨dx,e⟩:=zN z1 (.t p);refine ak e rfl rfl rfl ?_;right;refine bD ?_;cases o with
 |none=>
  left;refine aL (by decide) ?_;right;exact q l H1 z1
 |some i=>
  left;refine aY rfl ?_;right;refine⟨l,_,rfl,z1.at,?_⟩;right;refine ak e rfl rfl rfl ?_;left;refine qT (by rcases ho with rfl|rfl<;>decide) ?_;right;rename_i l2 H2 z2;refine⟨_,z2.drop.at,?_⟩;unfold t6;refine⟨l2,_,rfl,z2.at,pi rfl,?_⟩;right;exact q l _ ((z2.pull .k1).set (o':=wl (u1 n (some i))) rfl |>.sub (.cons .e (.drop .refl)))
def ah {A:ar}:∀ {L O Δ:List ar},au A O Δ->au A (L++O) (L++Δ)
 | [],_,_,h=>h
 |B::L,_,_,h=>.t (ah h)
abbrev Rw.wd:Rw->List V
 | .lg w=>[v6 w.s]
 | .sp s=>s.ws.map v6
 | .hop n o=>u1 n o
def sW {n:Int}:∀ y ∈ u1 n o,∃ t,tyName y H=some t:=by
 intro y hy;cases o<;>simp only[u1,mo,not_mem_nil,or_false]at hy
 .rcases hy with rfl|rfl<;>exact⟨"str",rfl⟩
 .rcases hy with rfl|rfl|rfl|rfl<;>exact⟨"str",rfl⟩
def Rw.w6 (r:Rw):∀ y ∈ r.wd,∃ t,tyName y H=some t:=by
 cases r with
 |lg w=>intro y hy;rw[mem_singleton.mp hy];exact⟨"str",rfl⟩
 |sp s=>
  intro y hy;obtain⟨w,_,rfl⟩:=List.mem_map.mp hy;exact⟨"str",rfl⟩
 |hop n o=>exact sW
def ng (r:Rw)(ok:r.ok):∃ f,tab.me.lookup (r.cl,("words":Str))=some f/\(∀ Ψ,dflt ⟨tab,R,Ψ,true⟩ f 1=[])/\∀ {k:Nat}{de:Addr}{O Δ:List ar}{H:Hp}{Q:VK}{E:XK},1<=k->Sep O H->au (tH R de r) O Δ->(∀ p H',Sep (pt p (wl r.wd)::O) H'->Q (v0 p) H')->ae tab R k f [v0 de] H Q E:=by
 cases r with
 |lg w=>
  obtain⟨f,h1,h2,h3⟩:=rL w;exact⟨f,h1,h2 R,λhk z p q=>h3 hk z q⟩
 |sp s=>
  obtain⟨f,hf⟩:∃ f,tab.me.lookup (s.cl,("words":Str))=some f:=by cases s<;>exact⟨_,rfl⟩
  exact⟨f,hf,λΨ=>by cases s<;>cases hf<;>rfl,λhk z p q=>v8 hk ok hf z p q⟩
 |hop n o=>exact⟨20,rfl,λ_=>rfl,λhk z p q=>vt hk ok.1.1 ok.1.2 ok.2 z p q⟩
def Sep.mv:∀ {L P Δ O:List ar}{H:Hp},Sep (P++(Δ++(L++O))) H->Sep (P++(L++(Δ++O))) H
 | [],_,_,_,_,z=>z
 |A::L,P,Δ,O,H,z=>(Sep.mv (L:=L) (P:=A::P) (Δ:=Δ) (O:=O) (z.pull (ah (ah .e)))).push (ah .e)
inductive Itm where
 |row (r:Rw)|dO (w:Str)|tms (n:Int) (b:List Itm)|whn (o:Int) (b c:List Itm)
abbrev Fq (ns:List Str):Nat->Itm->Prop
 |_,.row r=>r.ok
 |_,.dO w=>w ∈ ns
 |n+1,.tms m b=>(0<=m/\m<=9)/\b.length<=30/\∀ i ∈ b,Fq ns n i
 |n+1,.whn o b c=>(o=0\/o=1)/\(b.length<=30/\∀ i ∈ b,Fq ns n i)/\c.length<=30/\∀ i ∈ c,Fq ns n i
 |0,.tms _ _=>False
 |0,.whn _ _ _=>False
abbrev bN (P:V->α->Prop)(vs:List V)(b:List α):Prop:=vs.length=b.length/\∀ (j:Nat) v i,vs[j]? =some v->b[j]? =some i->P v i
def bN.map {P P':V->α->Prop}{b:List α}(h:bN P vs b)(f:∀ v i,P v i->P' v i):bN P' vs b:=⟨h.1,λj v i h1 h2=>f v i (h.2 j v i h1 h2)⟩
def bN.nil {P:V->α->Prop}:bN P [] []:=⟨rfl,λj v i h _=>nomatch h⟩
def bN.snoc {P:V->α->Prop}{b:List α}{i:α}(h:bN P vs b)(p:P v i):bN P (vs++[v]) (b++[i]):=by
 refine⟨by rw[db,db,h.1];rfl,λj x y h1 h2=>?_⟩;rcases Nat.lt_trichotomy j vs.length with hj|hj|hj
 .rw[getElem?_append_left hj]at h1;rw[getElem?_append_left (h.1▸hj)]at h2;exact h.2 j x y h1 h2
 .subst hj;rw[getElem?_append_right (s0 _),Nat.sub_self]at h1;rw[getElem?_append_right (Nat.le_of_eq h.1.symm),h.1,Nat.sub_self]at h2;cases h1;cases h2;exact p
 .rw[List.getElem?_eq_none (by rw[db];simp;omega)]at h1;cases h1
def bN.get {P:V->α->Prop}{b:List α}{j:Nat}(h:bN P vs b)(e:vs[j]? =some v):∃ i,b[j]? =some i/\P v i:=by
 have hj:=(tz.mp e).1;have e2:b[j]? =some (b[j]'(by rw[<-h.1];exact hj)):=lv _;exact⟨_,e2,h.2 j v _ e e2⟩
abbrev fg (R:Rt)(F:List ar):Nat->V->Itm->Prop
 |_,v,.row r=>∃ d,v=v0 d/\tH R d r ∈ F
 |_,v,.dO w=>∃ d dx,v=v0 d/\pt d (wp (R.cad 10) dx [("called",v6 w)]) ∈ F
 |n+1,v,.tms m b=>∃ d dx l vs,v=v0 d/\pt d (wp (R.cad 11) dx [("many",v4 m),("block",v0 l)]) ∈ F/\pt l (wl vs) ∈ F/\bN (fg R F n) vs b
 |n+1,v,.whn o b c=>∃ d dx l vs l' vs',v=v0 d/\pt d (wp (R.cad 12) dx [("on",v4 o),("block",v0 l),("other",v0 l')]) ∈ F/\(pt l (wl vs) ∈ F/\bN (fg R F n) vs b)/\pt l' (wl vs') ∈ F/\bN (fg R F n) vs' c
 |0,_,.tms _ _=>False
 |0,_,.whn _ _ _=>False
def fg.mono {F':List ar}(h:∀ A ∈ F,A ∈ F'):∀ {n:Nat}{v:V}{i:Itm},fg R F n v i->fg R F' n v i:=by
 intro n
 induction n with
 |zero=>
  intro v i;cases i with
  |row r=>exact λ⟨t,e,m⟩=>⟨t,e,h _ m⟩
  |dO w=>exact λ⟨t,x,e,m⟩=>⟨t,x,e,h _ m⟩
  |tms m b=>exact λz=>z
  |whn o b c=>exact λz=>z
 |succ n ih=>
  intro v i;cases i with
  |row r=>exact λ⟨t,e,m⟩=>⟨t,e,h _ m⟩
  |dO w=>exact λ⟨t,x,e,m⟩=>⟨t,x,e,h _ m⟩
  |tms m b=>exact λ⟨t,x,l,vs,e,m1,m2,a⟩=>⟨t,x,l,vs,e,h _ m1,h _ m2,a.map λv i=>ih⟩
  |whn o b c=>exact λ⟨t,x,l,vs,l',vs',e,m1,⟨m2,a⟩,m3,a'⟩=>⟨t,x,l,vs,l',vs',e,h _ m1,⟨h _ m2,a.map λv i=>ih⟩,h _ m3,a'.map λv i=>ih⟩
def av {A:ar}:∀ {F:List ar},A ∈ F->∃ Δ,au A F Δ
 |B::F,h=>by
  rcases mo.mp h with rfl|h
  .exact⟨F,.e⟩
  .obtain⟨Δ,p⟩:=av h;exact⟨B::Δ,.t p⟩
def fz {o:HO}{G:List ar}(h:pt a o ∈ F)(z:Sep (G++F) H):H a=some o:=let⟨_,p⟩:=av h;z.get (ah p)
def g9 {t:Addr}{G:List ar}(h:tu t xs ∈ F)(z:Sep (G++F) H):H t=some (wn xs):=let⟨_,p⟩:=av h;z.DX (ah p)
abbrev ax (ws:List Str):Nat:=(ws.map λw=>w.length+1).sum
def aa {w:Str}{ws:List Str}:ax (w::ws)=w.length+1+ax ws:=by unfold ax;rw[map_cons,sum_cons]
def az {ws vs:List Str}:ax (ws++vs)=ax ws+ax vs:=by unfold ax;rw[ge,List.sum_append]
def y9 {ws vs:List Str}(h:List.Sublist ws vs):ax ws<=ax vs:=by
 induction h with
 |slnil=>exact s0 _
 |cons a _ ih=>rw[aa];omega
 |cons_cons a _ ih=>rw[aa,aa];omega
def qW (ws:List Str):ws.length<=ax ws:=by
 induction ws with
 |nil=>exact s0 _
 |cons a r ih=>rw[aa,length_cons];omega
def yy {w:Str}{ws:List Str}(h:w ∈ ws):w.length+1<=ax ws:=by
 have:=y9 (List.singleton_sublist.mpr h);rw[aa]at this
 omega
def fU:∀ {ws:List Str},ws≠[]->(Str.join bQ ws).length+1=ax ws
 | [],h=>absurd rfl h
 | [x],_=>by rw[aa];rfl
 |x::y::r,_=>by
  have ih:=fU (ws:=y::r) (λh=>nomatch h);rw[dm]at ih⊢;rw[join_cons,db,db,aa,<-ih,dm x,show bQ.cps.toList.length=1 from rfl]
  omega
def sG (z:Str):ax (Txt.split z bQ)=z.length+1:=by
 rw[<-fU (show Txt.split z bQ≠[] from lZ z 32),show Str.join bQ (Txt.split z bQ)=z from StrLaws.join_split z bQ]
def rS (ws:List Str):(Txt.join bQ ws).length<=ax ws:=by
 have e:Txt.join bQ ws=Str.join bQ ws:=StrLaws.glued_eq_join _ _;rw[e];cases ws with
 |nil=>exact s0 0
 |cons a r=>have:=fU (ws:=a::r) (λh=>nomatch h);omega
def ql (ws:List Str):(ws.map (·.length)).sum+ws.length=ax ws:=by
 induction ws with
 |nil=>rfl
 |cons a r ih=>rw[aa,<-ih,map_cons,sum_cons,length_cons];omega
abbrev Cn:jo->jo
 | .cons (.for _ _ b) _=>b
 |_=>.nil
def zx {b:Addr}{zs:List V}(s:Sep O H)(r:dn (pt a (wl xs)) (pt a (wl (xs++zs))) O Γ')(e:H b=some (wl zs))(hl:xs.length+zs.length<=10000)(h:∀ H',Sep Γ' H'->Q wf H'):t6 .extend a xs [v0 b] H Q:=by unfold t6;exact⟨_,_,rfl,e,hl,h _ (s.put r rfl)⟩
def gb (h:i.natAbs<=1000000000)(q:Q (v6 (nw i)) H):jJ G .str [v4 i] H Q:=by
 unfold jJ;refine .inl ⟨i,rfl,?_,q⟩
 by_cases e:i.natAbs=0
 .rw[e];decide
 .rw[Nat.log2_lt e];exact Nat.lt_of_le_of_lt h (by decide)
noncomputable abbrev bR:Str:="("
noncomputable abbrev aR:Str:=")"
noncomputable abbrev bq:Str:=";"
noncomputable abbrev jx:Str:="else"
noncomputable abbrev j3:Str:="times"
noncomputable abbrev dq:Str:="when"
noncomputable abbrev qK:Str:="do"
abbrev Rw.zs:Rw->List Str
 | .lg w=>[w.s]
 | .sp s=>s.ws
 | .hop n none=>["hop",nw n]
 | .hop n (some i)=>["hop",nw n,"if",nw i]
def Rw.Ae (r:Rw):r.wd=r.zs.map v6:=by
 cases r with
 |lg w=>rfl
 |sp s=>rfl
 |hop n o=>cases o<;>rfl
abbrev aE:List (List Str)->List Str
 | []=>[]
 |x::r=>x++(r.map λy=>bq::y).flatten
def gi:aE (l++[y])=aE l++(if l.length=0 then y else bq::y):=by
 cases l with
 |nil=>show y++_=[]++y;simp
 |cons x r=>
  show x++((r++[y]).map λy=>bq::y).flatten=(x++(r.map λy=>bq::y).flatten)++(bq::y);simp
def uU:∀ {x:List Str},x ∈ l->x.length<=(aE l).length:=by
 cases l with
 |nil=>intro x h;cases h
 |cons a r=>
  intro x h;show x.length<=(a++(r.map λy=>bq::y).flatten).length;rw[db];rcases mo.mp h with rfl|h
  .omega
  .have:∀ (r:List (List Str)),x ∈ r->x.length<=((r.map λy=>bq::y).flatten).length:=λr=>by
    induction r with
    |nil=>intro h;cases h
    |cons b s ih=>
     intro h;rw[map_cons,flatten_cons,db,length_cons];rcases mo.mp h with rfl|h
     .omega
     .have:=ih h;omega
   have:=this r h
   omega
def vP:∀ {x:List Str},x ∈ l->ax x<=ax (aE l):=by
 cases l with
 |nil=>intro x h;cases h
 |cons a r=>
  intro x h;show ax x<=ax (a++(r.map λy=>bq::y).flatten);rw[az];rcases mo.mp h with rfl|h
  .omega
  .have:∀ (r:List (List Str)),x ∈ r->ax x<=ax ((r.map λy=>bq::y).flatten):=λr=>by
    induction r with
    |nil=>intro h;cases h
    |cons b s ih=>
     intro h;rw[map_cons,flatten_cons,az,aa];rcases mo.mp h with rfl|h
     .omega
     .have:=ih h;omega
   have:=this r h
   omega
abbrev eg (l:List (List Str)):List Str:=bR::(aE l++[aR])
abbrev iq (c:List (List Str)):List Str:=if c.length=0 then[] else jx::eg c
abbrev ao:Nat->Itm->List Str
 |_,.row r=>r.zs
 |_,.dO w=>[qK,w]
 |n+1,.tms m b=>j3::nw m::eg (b.map (ao n))
 |n+1,.whn o b c=>dq::nw o::(eg (b.map (ao n))++iq (c.map (ao n)))
 |0,.tms _ _=>[]
 |0,.whn _ _ _=>[]
noncomputable abbrev aQ (n:Nat)(b:List Itm):List Str:=eg (b.map (ao n))
variable {b:List Itm}
def yd {i:Itm}(h:i ∈ b):(ao n i).length+2<=(aQ n b).length:=by
 have:=uU (l:=b.map (ao n)) (List.mem_map_of_mem h);show _<=(bR::(aE _++[aR])).length;rw[length_cons,db];simp
 omega
def yM {i:Itm}(h:i ∈ b):ax (ao n i)+4<=ax (aQ n b):=by
 have:=vP (l:=b.map (ao n)) (List.mem_map_of_mem h);show _<=ax (bR::(aE _++[aR]));rw[aa,az,aa,show bR.length=1 by decide+kernel,show aR.length=1 by decide+kernel]
 omega
def eL:eg l≠[]:=cons_ne_nil _ _
def wL:(l.map ax).sum<=ax (aE l):=by
 cases l with
 |nil=>exact s0 _
 |cons a r=>
  show _<=ax (a++(r.map λy=>bq::y).flatten);rw[az,map_cons,sum_cons];have:∀ r:List (List Str),(r.map ax).sum<=ax ((r.map λy=>bq::y).flatten):=λr=>by
   induction r with
   |nil=>exact s0 _
   |cons b s ih=>rw[map_cons,map_cons,sum_cons,flatten_cons,az,aa];omega
  have:=this r
  omega
def wN (r:Rw):tab.oc.contains r.cl=true/\tab.sub.lookup (r.cl,10)=some false/\tab.sub.lookup (r.cl,11)=some false/\tab.sub.lookup (r.cl,12)=some false:=by
 cases r with
 |lg w=>cases w<;>exact⟨rfl,rfl,rfl,rfl⟩
 |sp s=>cases s<;>exact⟨rfl,rfl,rfl,rfl⟩
 |hop n o=>exact⟨rfl,rfl,rfl,rfl⟩
def EF {r:Rw}{G:List ar}(h:tH R d r ∈ F)(z:Sep (G++F) H):∃ dx fs,H d=some (wp (R.cad r.cl) dx fs):=let⟨_,p⟩:=av h;Ed z (ah p)
abbrev a9:Nat->Itm->Prop
 |_,.row r=>r.ok
 |_,.dO w=>Nm w
 |n+1,.tms m b=>(0<=m/\m<=9)/\b.length<=24/\∀ i ∈ b,a9 n i
 |n+1,.whn o b c=>(o=0\/o=1)/\(b.length<=24/\∀ i ∈ b,a9 n i)/\c.length<=24/\∀ i ∈ c,a9 n i
 |0,.tms _ _=>False
 |0,.whn _ _ _=>False
noncomputable abbrev iQ (n:Nat)(b:List Itm):Prop:=b.length<=24/\∀ i ∈ b,a9 n i
abbrev BN (R:Rt)(n:Nat):Prop:=∀ {k:Nat}{F G Δ:List ar}{l:Addr}{vs:List V}{b:List Itm}{H:Hp}{Q:VK}{E:XK},3*n+3<=k->iQ n b->(aQ n b).length<=9000->au (pt l (wl vs)) (G++F) Δ->bN (fg R F n) vs b->Sep (G++F) H->(∀ p H',Sep (pt p (wl ((aQ n b).map v6))::(G++F)) H'->Q (v0 p) H')->ae tab R k 56 [v0 l] H Q E
abbrev Ee (R:Rt)(n:Nat):Prop:=∀ {k:Nat}{F G:List ar}{v:V}{i:Itm}{H:Hp}{Q:VK}{E:XK},3*n+2<=k->a9 n i->(ao n i).length<=9000->fg R F n v i->Sep (G++F) H->(∀ p H',Sep (pt p (wl ((ao n i).map v6))::(G++F)) H'->Q (v0 p) H')->ae tab R k 55 [v] H Q E
section
variable {F G:List ar}{v:V}{n:Nat}
def nO (ro:Ro K R)(ih:∀ m,n=m+1->BN R m):Ee R n:=by
 intro k F G v i H Q E hk ok hl hi z q;delta f7;cases i with
 |row r=>
  obtain⟨d,rfl,m⟩:∃ d,v=v0 d/\tH R d r ∈ F:=by cases n<;>exact hi
  have ok':r.ok:=by cases n<;>exact ok
  have q:∀ p H',Sep (pt p (wl (r.zs.map v6))::(G++F)) H'->Q (v0 p) H':=by cases n<;>exact q
  obtain⟨x,fs,e⟩:=EF m z;obtain⟨o1,o2,o3,o4⟩:=wN r;obtain⟨fn,h1,h2,h3⟩:=ng (R:=R) r ok';obtain⟨Δ,pl⟩:=av m;right;refine cE e o1 o2 ?_;right;refine cE e o1 o3 ?_;right;refine cE e o1 o4 ?_;right;refine iJ (t9 r) z (ah pl) ?_ h1 ?_
  .cases r with
   |lg w=>rfl
   |sp s=>cases s<;>rfl
   |hop n o=>rfl
  left;refine gq (vs':=[v0 d]) (by show _::([]++dflt _ _ 1)=_;rw[h2];rfl) ?_;refine h3 nofun z (ah pl) (λp H7 z7=>?_);rw[Rw.Ae]at z7;exact q p H7 z7
 |dO w=>
  obtain⟨d,x,rfl,m⟩:∃ d dx,v=v0 d/\pt d (wp (R.cad 10) dx [("called",v6 w)]) ∈ F:=by cases n<;>exact hi
  have q:∀ p H',Sep (pt p (wl ([qK,w].map v6))::(G++F)) H'->Q (v0 p) H':=by cases n<;>exact q
  have e:=fz m z;right;refine cE e rfl rfl ?_;right;refine ak e rfl rfl rfl ?_;right;rename_i p H1 z1;exact q p H1 z1
 |tms m b=>
  cases n with
  |zero=>exact hi.elim
  |succ n=>
   obtain⟨d,x,l,vs,rfl,m1,m2,a⟩:=hi;obtain⟨Δ,pl⟩:=av m2;have hl:(aQ n b).length+2<=9000:=hl;have e:=fz m1 z;have ok1:=ok.1;right;refine cE e rfl rfl ?_;right;refine cE e rfl rfl ?_;right;refine ak e rfl rfl rfl ?_;right;refine gb nofun ?_;right;rename_i p1 H1 z1;refine ak (fz (G:=_::G) m1 z1) rfl rfl rfl ?_;refine ih n rfl (G:=pt p1 _::G) nofun ok.2 nofun (.t (ah pl)) a z1 λp2 H2 z2=>?_
   right;refine u6 z2 (z2.get .k1) z2.at (by rw[cr];simp;omega) λp3 H3 z3=>?_
   exact q p3 H3 (z3.sub (.cons .e (.drop (.drop .refl))))
 |whn o b c=>
  cases n with
  |zero=>exact hi.elim
  |succ n=>
   obtain⟨d,x,l,vs,l',vs',rfl,m1,⟨m2,a⟩,m3,a'⟩:=hi;obtain⟨Δ,pl⟩:=av m2;obtain⟨Δ',pl'⟩:=av m3;have hl:((aQ n b)++iq (c.map (ao n))).length+2<=9000:=hl;rw[db]at hl;have e:=fz m1 z;have ok1:=ok.1;right;refine cE e rfl rfl ?_;right;refine cE e rfl rfl ?_;right;refine cE e rfl rfl ?_;right;delta f9;right;refine ak e rfl rfl rfl ?_;right;refine gb nofun ?_;right;rename_i p1 H1 z1;refine ak (fz (G:=_::G) m1 z1) rfl rfl rfl ?_;refine ih n rfl (k:=k-1-1) (G:=pt p1 _::G) nofun ok.2.1 nofun (.t (ah pl)) a z1 λp2 H2 z2=>?_
   right;refine u6 z2 (z2.get .k1) z2.at (by rw[cr];simp;omega) λp3 H3 z3=>?_
   have z4:Sep (pt p3 (wl ((dq::nw o::aQ n b).map v6))::(G++F)) H3:=z3.sub (.cons .e (.drop (.drop .refl)));clear z1 z2 z3;right;refine ak (fz (G:=_::G) m1 z4) rfl rfl rfl ?_;right;refine c7 (fz (G:=_::G) m3 z4) ?_;right;have hc:c.length=vs'.length:=a'.1.symm
   by_cases g:c.length=0
   .have e0:iq (c.map (ao n))=[]:=by unfold iq;rw[cr,if_pos g]
    refine aL (decide_eq_false nofun) ?_;right;refine q p3 H3 ?_;show Sep (pt p3 (wl ((dq::nw o::(aQ n b++iq (c.map (ao n)))).map v6))::(G++F)) H3;rw[e0,append_nil];exact z4
   .have e0:iq (c.map (ao n))=jx::aQ n c:=by unfold iq;rw[cr,if_neg g]
    rw[e0]at hl;simp at hl;refine aY (decide_eq_true nofun) ?_;right;refine⟨_,_,rfl,z4.at,?_⟩;left;refine⟨_,z4.at,jh z4 .e (by simp;omega) λH5 z5=>?_⟩;right;refine⟨_,_,rfl,z5.at,?_⟩;right;refine ak (fz (G:=_::G) m1 z5) rfl rfl rfl ?_;refine ih n rfl (k:=k-1-1) (G:=pt p3 _::G) nofun ok.2.2 nofun (.t (ah pl')) a' z5 λp6 H6 z6=>?_
    left;refine⟨_,z6.get .k1,zx z6 .k1 z6.at (by simp;omega) λH7 z7=>?_⟩;right;refine q p3 H7 ?_;show Sep (pt p3 (wl ((dq::nw o::(aQ n b++iq (c.map (ao n)))).map v6))::(G++F)) H7;rw[e0];have z8:=z7.drop;simp at z8⊢;exact z8
def nv (hi:Ee R n):BN R n:=by
 intro k F G Δ l vs b H Q E hk ok hl pl a z q;delta cu;right;rename_i p H1 z1;have hb:vs.length=b.length:=a.1;have hl30:=ok.1;refine EL (z1.get (.t pl)) ?_;refine yc (xs:=vs) (λj U H=>∃ u2 u3,U=[some (v0 l),some (v0 p),u2,u3]/\Sep (pt p (wl ((bR::aE ((b.take j).map (ao n))).map v6))::(G++F)) H) ⟨_,_,rfl,z1⟩ ?_ ?_ ?_
 .rintro j U H ⟨u2,u3,rfl,hs⟩;exact hs.get (.t pl)
 .rintro j x T U H hx ⟨u2,u3,rfl,hs⟩ hT;obtain⟨i,ei,hi2⟩:=a.get hx;have him:=dl ei;have hj:=(tz.mp ei).1;have hwl:=yd (n:=n) him;have z2:=hs.oz (xs:=[v4 j,x]) hT;left;refine⟨T,_,rfl,.inl (cM.of z2.atT),rfl,?_⟩;generalize upd H T _=H4 at z2⊢;have z3:=z2.drop;have tk:(b.take (j+1)).map (ao n)=(b.take j).map (ao n)++[ao n i]:=by rw[take_succ,ei,ge];rfl
  have tl:((b.take j).map (ao n)).length=j:=by rw[cr,dL];omega
  have pre:(aE ((b.take j).map (ao n))).length+(ao n i).length+3<=9003:=by
   have e1:b.map (ao n)=((b.take j).map (ao n)++[ao n i])++(b.drop (j+1)).map (ao n):=by rw[<-tk,<-ge,take_append_drop]
   have mono:∀ (l m:List (List Str)),(aE l).length<=(aE (l++m)).length:=λl m=>by
    cases l with
    |nil=>exact Nat.zero_le _
    |cons x r=>show(x++_).length<=(x++((r++m).map _).flatten).length;rw[ge,List.flatten_append,<-li,db (as:=x++_)];omega
   have h1:=mono ((b.take j).map (ao n)++[ao n i]) ((b.drop (j+1)).map (ao n));rw[<-e1,gi,db]at h1;have h2:(aE (b.map (ao n))).length+2=(aQ n b).length:=by show _=(bR::(aE _++[aR])).length;rw[length_cons,db];rfl
   have h3:(ao n i).length<=(if((b.take j).map (ao n)).length=0 then ao n i else bq::ao n i).length:=by split<;>simp
   omega
  have last:∀ {H:Hp}{pre2:List Str},pre2.length<=9100-(ao n i).length->(ao n i).length<=9000->aE ((b.take (j+1)).map (ao n))=pre2++ao n i->Sep (pt p (wl ((bR::pre2).map v6))::(G++F)) H->wB (c8 1 (Cn (c8 1 cu.body))) ⟨tab,R,ae tab R (k-1),true⟩ (vL { nx:=λσ' H'=>True,rt:=Q } λU H=>∃ u2 u3,U=[some (v0 l),some (v0 p),u2,u3]/\Sep (pt p (wl ((bR::aE ((b.take (j+1)).map (ao n))).map v6))::(G++F)) H) (λ_=>E) [some (v0 l),some (v0 p),some (v4 j),some x] H:=by
   intro H pre2 h1 h2 h3 z;right;refine⟨_,_,rfl,z.at,?_⟩;right;refine hi (k:=k-1) (G:=pt p _::G) nofun (ok.2 i him) nofun hi2 z λp2 H2 z4=>?_
   left;refine⟨_,z4.get .k1,zx z4 .k1 z4.at (by simp;omega) λH7 z7=>?_⟩;right;refine⟨_,_,rfl,?_⟩;rw[h3];have z8:=z7.drop;simp at z8⊢;exact z8
  have sn:aE ((b.take (j+1)).map (ao n))=aE ((b.take j).map (ao n))++(if j=0 then ao n i else bq::ao n i):=by rw[tk,gi,tl]
  left
  by_cases g:j=0
  .refine aL (decide_eq_false nofun) ?_;refine last (pre2:=aE ((b.take j).map (ao n))) nofun nofun (by rw[sn,if_pos g]) z3
  .refine aY (decide_eq_true nofun) ?_;right;refine⟨_,_,rfl,z3.at,?_⟩;left;refine⟨_,z3.at,jh z3 .e (by rw[cr,length_cons];omega) λH5 z5=>?_⟩;refine last (pre2:=aE ((b.take j).map (ao n))++[bq]) (by rw[db,gt];omega) nofun (by rw[sn,if_neg g,li];rfl) ?_;simp at z5⊢;exact z5
 .rintro U H ⟨u2,u3,rfl,hs⟩;rw[hb,take_of_length_le (s0 _)]at hs;right;refine⟨_,_,rfl,hs.at,?_⟩;left;refine⟨_,hs.at,jh hs .e ?_ λH7 z7=>?_⟩
  .have h2:(aE (b.map (ao n))).length+2=(aQ n b).length:=by show _=(bR::(aE _++[aR])).length;rw[length_cons,db];rfl
   rw[cr,length_cons]
   omega
  right;refine q p H7 ?_;show Sep (pt p (wl ((bR::(aE (b.map (ao n))++[aR])).map v6))::(G++F)) H7;simp at z7⊢;exact z7
def DT (ro:Ro K R):∀ n,BN R n
 |0=>nv (nO ro λm e=>absurd e nofun)
 |n+1=>nv (nO ro λm e=>by cases e;exact DT ro n)
end
inductive Rd (α:Type) where
 |ok (x:α) (n:Nat)|no (n:Nat)
abbrev C5 (lo hi i:Int):Bool:=decide (lo<=i)&&decide (i<=hi)
abbrev cW (ws:List Str)(n:Nat)(lo hi:Int):Option Int:=match numAt ws n with
 |some i=>if C5 lo hi i then some i else none
 |none=>none
abbrev mL (w:Str):Option Bn:=if w="here" then some .h else if w="there" then some .t else if w="left" then some .l else if w="way" then some .w else if w="sign" then some .s else if w="met" then some .m else none
abbrev i7 (ws:List Str)(n:Nat):Option Bn:=match ws[n]? with
 |some w=>mL w
 |none=>none
abbrev rq (f:Bn->Int->Sp)(ws:List Str)(n:Nat):Rd Rw:=match i7 ws n with
 |none=>.no n
 |some b=>match cW ws (n+1) (-1000000000) 1000000000 with
  |none=>.no (n+1)
  |some i=>.ok (.sp (f b i)) (n+2)
abbrev AB (ws:List Str)(n:Nat):Rd Rw:=match i7 ws n with
 |none=>.no n
 |some b=>match i7 ws (n+1) with
  |none=>.no (n+1)
  |some c=>.ok (.sp (.take b c)) (n+2)
abbrev rA (f:Bn->Sp)(ws:List Str)(n:Nat):Rd Rw:=match i7 ws n with
 |none=>.no n
 |some b=>.ok (.sp (f b)) (n+1)
abbrev qm (ws:List Str)(n:Nat):Rd Rw:=match cW ws n 0 24 with
 |none=>.no n
 |some i=>if isAt ws (n+1) "if" then(match cW ws (n+2) 0 1 with
   |none=>.no (n+2)
   |some o=>.ok (.hop i (some o)) (n+3)) else .ok (.hop i none) (n+1)
abbrev xu (ws:List Str)(n:Nat):Rd Rw:=
 if isAt ws n "copy" then .ok (.lg .copy) (n+1) else if isAt ws n "fill" then .ok (.lg .fill) (n+1) else if isAt ws n "seek" then .ok (.lg .seek) (n+1) else
 if isAt ws n "match" then .ok (.lg .mtch) (n+1) else if isAt ws n "shift" then .ok (.lg .shift) (n+1) else if isAt ws n "turn" then .ok (.lg .turn) (n+1) else .no n
abbrev tG (ws:List Str)(n:Nat):Rd Rw:=
 if isAt ws n "set" then rq .set ws (n+1) else if isAt ws n "add" then rq .add ws (n+1) else if isAt ws n "take" then AB ws (n+1) else
 if isAt ws n "read" then rA .read ws (n+1) else if isAt ws n "write" then rA .write ws (n+1) else if isAt ws n "hop" then qm ws (n+1) else xu ws n
section
variable {a dx qa:Addr}{n:Nat}{ws:List Str}{w:Str}
def bt (h:cW ws n lo hi=some i):lo<=i/\i<=hi/\numAt ws n=some i:=by
 unfold cW at h;cases e:numAt ws n with
 |none=>rw[e]at h;cases h
 |some j=>
  rw[e]at h;have h:(if C5 lo hi j then some j else none)=some i:=h
  by_cases g:C5 lo hi j=true
  .rw[if_pos g]at h;cases h;unfold C5 at g;simp only[nb,decide_eq_true_eq]at g;exact⟨g.1,g.2,rfl⟩
  .rw[if_neg g]at h;cases h
def qz (e:numAt ws n=some i)(h1:lo<=i)(h2:i<=hi):cW ws n lo hi=some i:=by
 unfold cW;rw[e];show(if C5 lo hi i then some i else none)=some i;rw[if_pos (by unfold C5;rw[decide_eq_true h1,decide_eq_true h2];rfl)]
def yQ (h:∀ i,numAt ws n=some i->¬ (lo<=i/\i<=hi)):cW ws n lo hi=none:=by
 cases e:cW ws n lo hi with
 |none=>rfl
 |some i=>
  obtain⟨h1,h2,h3⟩:=bt e;exact absurd ⟨h1,h2⟩ (h i h3)
def bB (ro:Ro K R)(hk:3<=k)(hs:∀ w ∈ ws,w.length<=100000) (z:Sep (pt a (bM R dx qa n)::pt qa (bT ws)::O) H)
  (q:∀ i H',cW ws n lo hi=some i->Sep (pt a (bM R dx qa (n+1))::pt qa (bT ws)::O) H'->Q (v4 i) H')
  (r:cW ws n lo hi=none->∀ e H',Sep (nz (R.cad 2) [("at",v4 (n:Int))] e false::O) H'->E e H'):ae tab R k 43 [v0 a,v4 lo,v4 hi] H Q E:=
 pd ro hk hs z (λi H' e h1 h2 z'=>q i H' (qz e h1 h2) z') λh=>r (yQ h)
def pP {b:Bn}(h:mL w=some b):w=b.nm:=by
 unfold mL at h
 repeat(split at h;(rename_i e;cases h;exact e))
 cases h
def t7:gr (v6 w)=(mL w).isSome:=by
 cases e:mL w with
 |some b=>rw[pP e];exact we b.at
 |none=>
  show Ai (v6 w) (AD.map v6)=false;have h:w≠"here"/\w≠"there"/\w≠"left"/\w≠"way"/\w≠"sign"/\w≠"met":=by
   unfold mL at e;refine⟨?_,?_,?_,?_,?_,?_⟩<;>rintro rfl<;>revert e<;>decide+kernel
  obtain⟨h1,h2,h3,h4,h5,h6⟩:=h;simp[Ai,AD,jy,h1,h2,h3,h4,h5,h6,Ne.symm h1,Ne.symm h2,Ne.symm h3,Ne.symm h4,Ne.symm h5,Ne.symm h6]
def bz (ro:Ro K R)(hk:3<=k)(z:Sep (pt a (bM R dx qa n)::pt qa (bT ws)::O) H)
  (q:∀ b H',i7 ws n=some b->Sep (pt a (bM R dx qa (n+1))::pt qa (bT ws)::O) H'->Q (v6 b.nm) H')
  (r:i7 ws n=none->∀ e H',Sep (nz (R.cad 2) [("at",v4 (n:Int))] e false::O) H'->E e H'):ae tab R k 42 [v0 a] H Q E:=by
 refine sP ro hk z (λw H' e hb z'=>?_) λh=>r ?_
 .rw[t7]at hb;obtain⟨b,eb⟩:=Option.isSome_iff_exists.mp hb;rw[pP eb];exact q b H' (by unfold i7;rw[e];exact eb) z'
 .unfold i7;cases e:ws[n]? with
  |none=>rfl
  |some w=>
   rw[e]at h;have h:gr (v6 w)=false:=h;rw[t7]at h;exact Option.not_isSome_iff_eq_none.mp (by rw[h];exact Bool.false_ne_true)
end
abbrev C7 (R:Rt)(a dx qa:Addr)(ws:List Str)(O:List ar)(Q:VK)(E:XK):Rd Rw->Prop
 | .ok r m=>∀ d H',r.ok->Sep (tH R d r::pt a (bM R dx qa m)::pt qa (bT ws)::O) H'->Q (v0 d) H'
 | .no m=>∀ e H',Sep (nz (R.cad 2) [("at",v4 (m:Int))] e false::O) H'->E e H'
section
variable {a dx qa:Addr}{n:Nat}{ws:List Str}{w:Str}
def oj (ro:Ro K R)(hk:4<=k)(z:Sep (pt a (bM R dx qa n)::pt qa (bT ws)::O) H)(q:C7 R a dx qa ws O Q E (xu ws n)):ae tab R k 46 [v0 a] H Q E:=by
 delta cN;unfold xu at q;have mk:∀ {wd:Wd}{H:Hp},C7 R a dx qa ws O Q E (.ok (.lg wd) (n+1))->Sep (pt a (bM R dx qa (n+1))::pt qa (bT ws)::O) H->sD (R.cad wd.cl) H Q:=λ{wd H} q z=>BE z λx dx' H1 z1=>q x H1 trivial (Em z1)
 right;refine⟨_,19,_,_,_,rfl,z.at,rfl,rfl,?_⟩;right;refine aI nofun z (λH1 e1 z1=>?_) (λe1=>?_)
 .rw[if_pos e1]at q;right;exact mk q z1
 rw[if_neg (by rw[e1];exact Bool.false_ne_true)]at q;right;refine⟨_,19,_,_,_,rfl,z.at,rfl,rfl,?_⟩;right;refine aI nofun z (λH1 e1 z1=>?_) (λe1=>?_)
 .rw[if_pos e1]at q;right;exact mk q z1
 rw[if_neg (by rw[e1];exact Bool.false_ne_true)]at q;right;refine⟨_,19,_,_,_,rfl,z.at,rfl,rfl,?_⟩;right;refine aI nofun z (λH1 e1 z1=>?_) (λe1=>?_)
 .rw[if_pos e1]at q;right;exact mk q z1
 rw[if_neg (by rw[e1];exact Bool.false_ne_true)]at q;right;refine⟨_,19,_,_,_,rfl,z.at,rfl,rfl,?_⟩;right;refine aI nofun z (λH1 e1 z1=>?_) (λe1=>?_)
 .rw[if_pos e1]at q;right;exact mk q z1
 rw[if_neg (by rw[e1];exact Bool.false_ne_true)]at q;right;refine⟨_,19,_,_,_,rfl,z.at,rfl,rfl,?_⟩;right;refine aI nofun z (λH1 e1 z1=>?_) (λe1=>?_)
 .rw[if_pos e1]at q;right;exact mk q z1
 rw[if_neg (by rw[e1];exact Bool.false_ne_true)]at q;right;refine⟨_,19,_,_,_,rfl,z.at,rfl,rfl,?_⟩;right;refine eZ nofun z (λH1 e1 z1=>?_) (λe1=>?_)
 .rw[if_pos e1]at q;right;exact mk q z1
 .rw[if_neg (by rw[e1];exact Bool.false_ne_true)]at q;exact q
def rp (ro:Ro K R)(hk:6<=k)(hs:∀ w ∈ ws,w.length<=100000) (z:Sep (pt a (bM R dx qa n)::pt qa (bT ws)::O) H) (q:C7 R a dx qa ws O Q E (qm ws n)):ae tab R k 47 [v0 a] H Q E:=by
 delta iX;unfold qm at q;right;refine⟨_,19,_,_,_,rfl,z.at,rfl,rfl,?_⟩;right;simp only[ro.g_MOST_HOPPED];right;refine bB (k:=k-1) ro nofun hs z (λi H1 e1 z1=>?_) (λe1 e H' z'=>by rw[e1]at q;exact q e H' z');rw[e1]at q;obtain⟨i0,i1,_⟩:=bt e1;have q:C7 R a dx qa ws O Q E (if isAt ws (n+1) "if" then(match cW ws (n+2) 0 1 with|none=>.no (n+2)|some o=>.ok (.hop i (some o)) (n+3)) else .ok (.hop i none) (n+1)):=q;right;refine⟨_,19,_,_,_,rfl,z1.at,rfl,rfl,?_⟩;right;refine aI nofun z1 (λH2 e2 z2=>?_) (λe2=>?_)
 .rw[if_pos e2]at q;right;refine⟨_,19,_,_,_,rfl,z2.at,rfl,rfl,?_⟩;right;refine bB (k:=k-1) ro nofun hs z2 (λo H3 e3 z3=>?_) (λe3 e H' z'=>by rw[e3]at q;exact q e H' z');rw[e3]at q;obtain⟨o0,o1,_⟩:=bt e3;have ho:Bs (some o):=by show o=0\/o=1;omega
  right;intro x dx' h1 h2 h3;refine vI (o:=some o) ro nofun i0 i1 ho (bX z3 h1 h2 h3) λH4 z4=>⟨rfl,?_⟩
  exact q x H4 ⟨⟨i0,i1⟩,ho⟩ z4
 .rw[if_neg (by rw[e2];exact Bool.false_ne_true)]at q;right;intro x dx' h1 h2 h3;refine vI (o:=none) ro nofun i0 i1 trivial (bX z1 h1 h2 h3) λH4 z4=>⟨rfl,?_⟩
  exact q x H4 ⟨⟨i0,i1⟩,trivial⟩ z4
def pz (ro:Ro K R)(hk:7<=k)(hs:∀ w ∈ ws,w.length<=100000) (z:Sep (pt a (bM R dx qa n)::pt qa (bT ws)::O) H) (q:C7 R a dx qa ws O Q E (tG ws n)):ae tab R k 48 [v0 a] H Q E:=by
 delta gM;unfold tG at q;right;refine⟨_,19,_,_,_,rfl,z.at,rfl,rfl,?_⟩;right;refine aI nofun z (λH1 e1 z1=>?_) (λe1=>?_)
 .rw[if_pos e1]at q;unfold rq at q;right;refine⟨_,19,_,_,_,rfl,z1.at,rfl,rfl,?_⟩;right;refine bz (k:=k-1) ro nofun z1 (λb H2 e2 z2=>?_) (λe2 e H' z'=>by rw[e2]at q;exact q e H' z');rw[e2]at q;right;refine⟨_,19,_,_,_,rfl,z2.at,rfl,rfl,?_⟩;right;simp only[ro.g_BOUND];right;simp only[ro.g_BOUND];right;refine bB (k:=k-1) ro nofun hs z2 (λi H3 e3 z3=>?_) (λe3 e H' z'=>by rw[e3]at q;exact q e H' z');rw[e3]at q;obtain⟨i0,i1,_⟩:=bt e3;right;intro x dx' h1 h2 h3;refine zX (k:=k-1) ro nofun i0 i1 (bX z3 h1 h2 h3) λH4 z4=>⟨rfl,?_⟩
  exact q x H4 ⟨i0,i1⟩ z4
 rw[if_neg (by rw[e1];exact Bool.false_ne_true)]at q;right;refine⟨_,19,_,_,_,rfl,z.at,rfl,rfl,?_⟩;right;refine aI nofun z (λH1 e1 z1=>?_) (λe1=>?_)
 .rw[if_pos e1]at q;unfold rq at q;right;refine⟨_,19,_,_,_,rfl,z1.at,rfl,rfl,?_⟩;right;refine bz (k:=k-1) ro nofun z1 (λb H2 e2 z2=>?_) (λe2 e H' z'=>by rw[e2]at q;exact q e H' z');rw[e2]at q;right;refine⟨_,19,_,_,_,rfl,z2.at,rfl,rfl,?_⟩;right;simp only[ro.g_BOUND];right;simp only[ro.g_BOUND];right;refine bB (k:=k-1) ro nofun hs z2 (λi H3 e3 z3=>?_) (λe3 e H' z'=>by rw[e3]at q;exact q e H' z');rw[e3]at q;obtain⟨i0,i1,_⟩:=bt e3;right;intro x dx' h1 h2 h3;refine Ao (k:=k-1) ro nofun i0 i1 (bX z3 h1 h2 h3) λH4 z4=>⟨rfl,?_⟩
  exact q x H4 ⟨i0,i1⟩ z4
 rw[if_neg (by rw[e1];exact Bool.false_ne_true)]at q;right;refine⟨_,19,_,_,_,rfl,z.at,rfl,rfl,?_⟩;right;refine aI nofun z (λH1 e1 z1=>?_) (λe1=>?_)
 .rw[if_pos e1]at q;unfold AB at q;right;refine⟨_,19,_,_,_,rfl,z1.at,rfl,rfl,?_⟩;right;refine bz (k:=k-1) ro nofun z1 (λb H2 e2 z2=>?_) (λe2 e H' z'=>by rw[e2]at q;exact q e H' z');rw[e2]at q;right;refine⟨_,19,_,_,_,rfl,z2.at,rfl,rfl,?_⟩;right;refine bz (k:=k-1) ro nofun z2 (λc H2 e3 z3=>?_) (λe3 e H' z'=>by rw[e3]at q;exact q e H' z');rw[e3]at q;right;intro x dx' h1 h2 h3;refine zW (k:=k-1) ro nofun (bX z3 h1 h2 h3) λH4 z4=>⟨rfl,?_⟩
  exact q x H4 trivial z4
 rw[if_neg (by rw[e1];exact Bool.false_ne_true)]at q;right;refine⟨_,19,_,_,_,rfl,z.at,rfl,rfl,?_⟩;right;refine aI nofun z (λH1 e1 z1=>?_) (λe1=>?_)
 .rw[if_pos e1]at q;unfold rA at q;right;refine⟨_,19,_,_,_,rfl,z1.at,rfl,rfl,?_⟩;right;refine bz (k:=k-1) ro nofun z1 (λb H2 e2 z2=>?_) (λe2 e H' z'=>by rw[e2]at q;exact q e H' z');rw[e2]at q;right;intro x dx' h1 h2 h3;refine zG (k:=k-1) ro nofun (bX z2 h1 h2 h3) λH4 z4=>⟨rfl,?_⟩
  exact q x H4 trivial z4
 rw[if_neg (by rw[e1];exact Bool.false_ne_true)]at q;right;refine⟨_,19,_,_,_,rfl,z.at,rfl,rfl,?_⟩;right;refine aI nofun z (λH1 e1 z1=>?_) (λe1=>?_)
 .rw[if_pos e1]at q;unfold rA at q;right;refine⟨_,19,_,_,_,rfl,z1.at,rfl,rfl,?_⟩;right;refine bz (k:=k-1) ro nofun z1 (λb H2 e2 z2=>?_) (λe2 e H' z'=>by rw[e2]at q;exact q e H' z');rw[e2]at q;right;intro x dx' h1 h2 h3;refine zU (k:=k-1) ro nofun (bX z2 h1 h2 h3) λH4 z4=>⟨rfl,?_⟩
  exact q x H4 trivial z4
 rw[if_neg (by rw[e1];exact Bool.false_ne_true)]at q;right;refine⟨_,19,_,_,_,rfl,z.at,rfl,rfl,?_⟩;right;refine aI nofun z (λH1 e1 z1=>?_) (λe1=>?_)
 .rw[if_pos e1]at q;right;exact rp ro nofun hs z1 q
 rw[if_neg (by rw[e1];exact Bool.false_ne_true)]at q;right;exact oj ro nofun z q
end
abbrev C1 (ws:List Str)(n:Nat):Option Str:=match ws[n]? with
 |some w=>if pq w then some w else none
 |none=>none
abbrev F5 (B:Nat->Rd (List Itm))(ws:List Str)(n:Nat):Rd Itm:=match cW ws n 0 9 with
 |none=>.no n
 |some m=>match B (n+1) with
  | .no e=>.no e
  | .ok b e=>.ok (.tms m b) e
abbrev kH (B:Nat->Rd (List Itm))(ws:List Str)(o:Int)(b:List Itm)(e:Nat):Rd Itm:=if isAt ws e jx then(match B (e+1) with
 | .no e2=>.no e2
 | .ok c e2=>.ok (.whn o b c) e2) else .ok (.whn o b []) e
abbrev EV (B:Nat->Rd (List Itm))(ws:List Str)(n:Nat):Rd Itm:=match cW ws n 0 1 with
 |none=>.no n
 |some o=>match B (n+1) with
  | .no e=>.no e
  | .ok b e=>kH B ws o b e
abbrev BK (ws:List Str)(n:Nat):Rd Itm:=match C1 ws n with
 |some w=>.ok (.dO w) (n+1)
 |none=>.no n
abbrev Fx:Rd Rw->Rd Itm
 | .ok r m=>.ok (.row r) m
 | .no m=>.no m
abbrev fN (B:Nat->Rd (List Itm))(ws:List Str)(n:Nat):Rd Itm:=
 if isAt ws n qK then BK ws (n+1) else if isAt ws n j3 then F5 B ws (n+1) else if isAt ws n dq then EV B ws (n+1) else Fx (tG ws n)
abbrev gx (I:Nat->Rd Itm)(ws:List Str):Nat->Nat->List Itm->Rd (List Itm)
 |0,n,acc=>if isAt ws n aR then .ok acc (n+1) else .no n
 |k+1,n,acc=>if isAt ws n bq then(match I (n+1) with
  | .no e=>.no e
  | .ok i e=>gx I ws k e (acc++[i])) else if isAt ws n aR then .ok acc (n+1) else .no n
abbrev qQ (I:Nat->Rd Itm)(ws:List Str)(n:Nat):Rd (List Itm):=match I n with
 | .no e=>.no e
 | .ok i e=>gx I ws 23 e [i]
abbrev pf (I:Nat->Rd Itm)(ws:List Str)(n:Nat):Rd (List Itm):=
 if isAt ws n bR then(if isAt ws (n+1) aR then .ok [] (n+2) else qQ I ws (n+1)) else .no n
abbrev c4 (ws:List Str):Nat->Nat->Rd (List Itm)
 |0=>λn=>.no n
 |L+1=>pf (fN (c4 ws L) ws) ws
abbrev CV (R:Rt)(a dx qa:Addr)(ws:List Str)(L:Nat)(G F:List ar)(Q:VK)(E:XK):Rd (List Itm)->Prop
 | .ok b m=>∀ l vs Δ H',iQ L b->bN (fg R (Δ++F) L) vs b->Sep (pt l (wl vs)::pt a (bM R dx qa m)::pt qa (bT ws)::(G++(Δ++F))) H'->Q (v0 l) H'
 | .no m=>∀ e Δ H',Sep (nz (R.cad 2) [("at",v4 (m:Int))] e false::(Δ++(G++F))) H'->E e H'
abbrev EU (R:Rt)(a dx qa:Addr)(ws:List Str)(L:Nat)(G F:List ar)(Q:VK)(E:XK):Rd Itm->Prop
 | .ok i m=>∀ d Δ H',a9 L i->fg R (Δ++F) L (v0 d) i->Sep (pt a (bM R dx qa m)::pt qa (bT ws)::(G++(Δ++F))) H'->Q (v0 d) H'
 | .no m=>∀ e Δ H',Sep (nz (R.cad 2) [("at",v4 (m:Int))] e false::(Δ++(G++F))) H'->E e H'
abbrev xk (R:Rt)(L:Nat):Prop:=∀ {k n:Nat}{a dx qa:Addr}{ws:List Str}{F G:List ar}{H:Hp}{Q:VK}{E:XK},3*L+10<=k->(∀ w ∈ ws,w.length<=100000)->Sep (pt a (bM R dx qa n)::pt qa (bT ws)::(G++F)) H->CV R a dx qa ws (L-1) G F Q E (c4 ws L n)->ae tab R k 51 [v0 a,v4 (5-(L:Int))] H Q E
abbrev DS (R:Rt)(L:Nat):Prop:=∀ {k n:Nat}{a dx qa:Addr}{ws:List Str}{F G:List ar}{H:Hp}{Q:VK}{E:XK},3*L+12<=k->(∀ w ∈ ws,w.length<=100000)->Sep (pt a (bM R dx qa n)::pt qa (bT ws)::(G++F)) H->EU R a dx qa ws L G F Q E (fN (c4 ws L) ws n)->ae tab R k 50 [v0 a,v4 (4-(L:Int))] H Q E
def uu {w:Str}(h:pq w=true):Nm w:=by
 unfold pq at h;simp only[nb,decide_eq_true_eq]at h;refine⟨⟨h.1,h.2.1⟩,λc hc=>?_⟩;have:=all_eq_true.mp h.2.2 c hc;unfold isA at this;simpa using this
def toF {L G:List ar}(z:Sep (L++(G++F)) H):Sep (G++(L++F)) H:=Sep.mv (P:=[]) z
def dN {A:ar}{L:List ar}:A ∈ F->A ∈ L++F:=jp L
section
variable {F G:List ar}{x dx p p':Addr}{vs vs':List V}
def nc {w:Str}(hk:1<=k)(z:Sep (pt x (wp (R.cad 10) dx [])::O) H)(q:∀ H',Sep (pt x (wp (R.cad 10) dx [("called",v6 w)])::O) H'->Q wf H'):ae tab R k 21 [v0 x,v6 w] H Q E:=by
 delta eA;right;exact q _ (by assumption)
def nA (hk:1<=k)(hp:pt p (wl vs) ∈ F)(z:Sep (pt x (wp (R.cad 11) dx [])::(G++F)) H)(q:∀ l H',Sep (pt x (wp (R.cad 11) dx [("many",v4 m),("block",v0 l)])::pt l (wl vs)::(G++F)) H'->Q wf H'):ae tab R k 23 [v0 x,v4 m,v0 p] H Q E:=by
 delta cK;right;rename_i H1 z1;refine aU z1 (fz (G:=_::G) hp z1) (λl H2 z2=>?_);right;rename_i H3 z3;exact q l _ (z3.pull .k1)
def kC {o:Int}(hk:1<=k)(hp:pt p (wl vs) ∈ F)(hp':pt p' (wl vs') ∈ F)(z:Sep (pt x (wp (R.cad 12) dx [])::(G++F)) H)(q:∀ l l' H',Sep (pt x (wp (R.cad 12) dx [("on",v4 o),("block",v0 l),("other",v0 l')])::pt l (wl vs)::pt l' (wl vs')::(G++F)) H'->Q wf H'):ae tab R k 25 [v0 x,v4 o,v0 p,v0 p'] H Q E:=by
 delta bL;right;rename_i H1 z1;refine aU z1 (fz (G:=_::G) hp z1) (λl H2 z2=>?_);right;rename_i H3 z3;refine pA ?_;right;refine aU z3 (fz (G:=_::_::G) hp' z3) (λl' H4 z4=>?_);right;rename_i H5 z5;exact q l l' _ (z5.sub (.cons .k2 (.cons .k1 (.cons .e .refl))))
def jQ {o:Int}(hk:1<=k)(hp:pt p (wl vs) ∈ F)(z:Sep (pt x (wp (R.cad 12) dx [])::(G++F)) H)(q:∀ l l' H',Sep (pt x (wp (R.cad 12) dx [("on",v4 o),("block",v0 l),("other",v0 l')])::pt l (wl vs)::pt l' (wl [])::(G++F)) H'->Q wf H'):ae tab R k 25 [v0 x,v4 o,v0 p,wf] H Q E:=by
 delta bL;right;rename_i H1 z1;refine aU z1 (fz (G:=_::G) hp z1) (λl H2 z2=>?_);right;rename_i H3 z3;refine pA ?_;right;rename_i l' H4 z4 H5 z5;exact q l l' _ (z5.sub (.cons .k2 (.cons .k1 (.cons .e .refl))))
end
section
variable {F G:List ar}{L:Nat}
def B5 {l qa:Addr}{ws:List Str}{m:Nat}(z:Sep (pt l (wl vs)::pt a (bM R dx qa m)::pt qa (bT ws)::(G++(Δ++F))) H):Sep (pt a (bM R dx qa m)::pt qa (bT ws)::(G++((pt l (wl vs)::Δ)++F))) H:=by
 have z1:=Sep.mv (P:=[pt a (bM R dx qa m),pt qa (bT ws)]) (Δ:=[pt l (wl vs)]) (L:=G) (O:=Δ++F) (z.sub (.cons .k1 (.cons .k1 (.cons .e .refl))));exact z1
def oE (ro:Ro K R)(ih:xk R L):DS R L:=by
 intro k n a dx qa ws F G H Q E hk hs z q;delta gX;unfold fN at q;have ed:4-(L:Int)+1=5-(L:Int):=by omega
 right;refine⟨_,19,_,_,_,rfl,z.at,rfl,rfl,?_⟩;right;refine aI nofun z (λH1 e1 z1=>?_) (λe1=>?_)
 .rw[if_pos e1]at q;unfold BK at q;right;refine⟨_,19,_,_,_,rfl,z1.at,rfl,rfl,?_⟩;right;refine nU ro nofun hs z1 (λw H2 e2 hw z2=>?_) (λe2 e H' z'=>?_)
  .rw[show C1 ws (n+1)=some w by unfold C1;rw[e2];exact if_pos hw]at q;right;intro x dx' h1 h2 h3;refine nc nofun (bX z2 h1 h2 h3) (λH3 z3=>⟨rfl,?_⟩);have hn:=uu hw;refine q x [pt x (wp (R.cad 10) dx' [("called",v6 w)])] H3 (by cases L<;>exact hn) (by cases L<;>exact⟨x,dx',rfl,lw⟩) ?_;exact Sep.mv (P:=[pt a (bM R dx qa (n+1+1)),pt qa (bT ws)]) (Δ:=[pt x _]) (L:=G) (O:=F) (z3.sub (.cons .k2 (.cons .k2 (.cons .e (.drop .refl)))))
  .have q:EU R a dx qa ws L G F Q E (.no (n+1)):=by
    rw[show C1 ws (n+1)=none by
     unfold C1;cases e3:ws[n+1]? with
     |none=>rfl
     |some w=>rw[e3]at e2;exact if_neg (by rw[show pq w=false from e2];exact Bool.false_ne_true)]at q
    exact q
   exact q e [] H' z'
 rw[if_neg (by rw[e1];exact Bool.false_ne_true)]at q;right;refine⟨_,19,_,_,_,rfl,z.at,rfl,rfl,?_⟩;right;refine aI nofun z (λH1 e1 z1=>?_) (λe1=>?_)
 .rw[if_pos e1]at q;unfold F5 at q;right;refine⟨_,19,_,_,_,rfl,z1.at,rfl,rfl,?_⟩;right;simp only[ro.g_MOST_TIMES];right;refine bB (k:=k-1) ro nofun hs z1 (λm H2 e2 z2=>?_) (λe2 e H' z'=>by rw[e2]at q;exact q e [] H' z');rw[e2]at q;obtain⟨m0,m1,_⟩:=bt e2;right;rw[ed];refine ih (k:=k-1) nofun hs z2 ?_;cases eB:c4 ws L (n+1+1) with
  |no e=>rw[eB]at q;exact q
  |ok b e=>
   rw[eB]at q;intro l vs Δ H3 okb al z3;cases L with
   |zero=>cases eB
   |succ L=>
    right;intro x dx' h1 h2 h3;have z4:=B5 z3;have z5:=bX (C:=R.cad 11) z4 h1 h2 h3;refine nA (G:=pt dx' (.own x)::pt a (bM R dx qa e)::pt qa (bT ws)::G) (F:=(pt l (wl vs)::Δ)++F) nofun lw z5 λl2 H4 z6=>⟨rfl,?_⟩
    refine q x (pt x (wp (R.cad 11) dx' [("many",v4 m),("block",v0 l2)])::pt l2 (wl vs)::(pt l (wl vs)::Δ)) H4 ⟨⟨m0,m1⟩,okb⟩ ⟨x,dx',l2,vs,rfl,lw,f8 _ lw,al.map λv i=>fg.mono λA h=>f8 _ (f8 _ (f8 _ h))⟩ ?_;exact Sep.mv (P:=[pt a (bM R dx qa e),pt qa (bT ws)]) (Δ:=[pt x _,pt l2 _]) (L:=G) (O:=(pt l (wl vs)::Δ)++F) (z6.sub (.cons .k3 (.cons .k3 (.cons .e (.cons .e (.drop .refl))))))
 rw[if_neg (by rw[e1];exact Bool.false_ne_true)]at q;right;refine⟨_,19,_,_,_,rfl,z.at,rfl,rfl,?_⟩;right;refine aI nofun z (λH1 e1 z1=>?_) (λe1=>?_)
 .rw[if_pos e1]at q;unfold EV at q;right;rw[ed];delta gI;right;refine⟨_,19,_,_,_,rfl,z1.at,rfl,rfl,?_⟩;right;refine bB (k:=k-1-1) ro nofun hs z1 (λo H2 e2 z2=>?_) (λe2 e H' z'=>by rw[e2]at q;exact q e [] H' z');rw[e2]at q;obtain⟨o0,o1,_⟩:=bt e2;have ho:o=0\/o=1:=by omega
  right;refine ih (k:=k-1-1) nofun hs z2 ?_;cases eB:c4 ws L (n+1+1) with
  |no e=>rw[eB]at q;exact q
  |ok b e=>
   rw[eB]at q;have q:EU R a dx qa ws L G F Q E (kH (c4 ws L) ws o b e):=q;unfold kH at q;intro l vs Δ H3 okb al z3;have z4:=B5 z3;right;refine⟨_,19,_,_,_,rfl,z4.at,rfl,rfl,?_⟩;right;refine aI nofun z4 (λH4 e4 z5=>?_) (λe4=>?_)
   .rw[if_pos e4]at q;right;refine ih (k:=k-1-1) (F:=(pt l (wl vs)::Δ)++F) (G:=G) nofun hs z5 ?_;cases eC:c4 ws L (e+1) with
    |no e2=>
     rw[eC]at q;intro e3 Δ2 H5 z6;refine q e3 (Δ2++(pt l (wl vs)::Δ)) H5 ?_;have z7:=Sep.mv (P:=nz (R.cad 2) [("at",v4 (e2:Int))] e3 false::Δ2) (Δ:=G) (L:=pt l (wl vs)::Δ) (O:=F) (by simpa using z6);simpa using z7
    |ok c e2=>
     rw[eC]at q;intro l' vs' Δ2 H5 okc al2 z6;cases L with
     |zero=>cases eB
     |succ L=>
      right;intro x dx' h1 h2 h3;have z7:=B5 z6;have z8:=bX (C:=R.cad 12) z7 h1 h2 h3;refine kC (G:=pt dx' (.own x)::pt a (bM R dx qa e2)::pt qa (bT ws)::G) (F:=(pt l' (wl vs')::Δ2)++((pt l (wl vs)::Δ)++F)) (p:=l) (p':=l') (vs:=vs) (vs':=vs') nofun (dN lw) lw z8 λl2 l3 H6 z9=>⟨rfl,?_⟩
      have up:∀ A,A ∈ Δ2++((pt l (wl vs)::Δ)++F)->A ∈ (pt x (wp (R.cad 12) dx' [("on",v4 o),("block",v0 l2),("other",v0 l3)])::pt l2 (wl vs)::pt l3 (wl vs')::(pt l' (wl vs')::(Δ2++(pt l (wl vs)::Δ))))++F:=λA h=>by
       refine f8 _ (f8 _ (f8 _ (f8 _ ?_)));show A ∈ (Δ2++(pt l (wl vs)::Δ))++F;rw[li];exact h
      refine q x _ H6 ⟨ho,okb,okc⟩ ⟨x,dx',l2,vs,l3,vs',rfl,lw,⟨f8 _ lw,al.map λv i=>fg.mono λA h=>up A (dN (f8 _ h))⟩,f8 _ (f8 _ lw),al2.map λv i=>fg.mono up⟩ ?_;have za:=Sep.mv (P:=[pt a (bM R dx qa e2),pt qa (bT ws)]) (Δ:=[pt x _,pt l2 _,pt l3 _]) (L:=G) (O:=(pt l' (wl vs')::Δ2)++((pt l (wl vs)::Δ)++F)) (z9.sub (.cons (.t .k3) (.cons (.t .k3) (.cons .e (.cons .e (.cons .e (.drop .refl)))))));simpa using za
   .rw[if_neg (by rw[e4];exact Bool.false_ne_true)]at q;cases L with
    |zero=>cases eB
    |succ L=>
     right;intro x dx' h1 h2 h3;have z8:=bX (C:=R.cad 12) z4 h1 h2 h3;refine jQ (G:=pt dx' (.own x)::pt a (bM R dx qa e)::pt qa (bT ws)::G) (F:=(pt l (wl vs)::Δ)++F) nofun lw z8 λl2 l3 H6 z9=>⟨rfl,?_⟩
     refine q x (pt x (wp (R.cad 12) dx' [("on",v4 o),("block",v0 l2),("other",v0 l3)])::pt l2 (wl vs)::pt l3 (wl [])::(pt l (wl vs)::Δ)) H6 ⟨ho,okb,by decide,λi hi=>nomatch hi⟩ ⟨x,dx',l2,vs,l3,[],rfl,lw,⟨f8 _ lw,al.map λv i=>fg.mono λA h=>f8 _ (f8 _ (f8 _ (f8 _ h)))⟩,f8 _ (f8 _ lw),.nil⟩ ?_;exact Sep.mv (P:=[pt a (bM R dx qa e),pt qa (bT ws)]) (Δ:=[pt x _,pt l2 _,pt l3 _]) (L:=G) (O:=(pt l (wl vs)::Δ)++F) (z9.sub (.cons (.t .k3) (.cons (.t .k3) (.cons .e (.cons .e (.cons .e (.drop .refl)))))))
 rw[if_neg (by rw[e1];exact Bool.false_ne_true)]at q;right;refine pz ro nofun hs z ?_;cases eD:tG ws n with
 |no m=>rw[eD]at q;exact λe H' z'=>q e [] H' z'
 |ok r m=>
  rw[eD]at q;intro d H' okr z';have q:EU R a dx qa ws L G F Q E (.ok (.row r) m):=q;refine q d [tH R d r] H' (by cases L<;>exact okr) (by cases L<;>exact⟨d,rfl,lw⟩) ?_;exact Sep.mv (P:=[pt a (bM R dx qa m),pt qa (bT ws)]) (Δ:=[tH R d r]) (L:=G) (O:=F) (z'.sub (.cons .k1 (.cons .k1 (.cons .e .refl))))
end
section
variable {F G:List ar}{L:Nat}
def xR (ro:Ro K R):xk R 0:=by
 intro k n a dx qa ws F G H Q E hk hs z q;delta bO;have e1:=z.at;unfold bM at e1;right;simp only[ro.g_DEEPEST];right;refine ak e1 rfl rfl rfl ?_;right;exact λe he=>cB nofun (z.drop.drop.new he) (λd H3 hs3=>⟨rfl,pw (G:=⟨tab,R,ae tab R (k-1),true⟩) hs3 .e rfl (λH4 hs4=>q e [] H4 (vh hs4))⟩)
abbrev Gm (R:Rt)(p a dx qa:Addr)(ws:List Str)(L:Nat)(F G:List ar)(res:Rd (List Itm))(j:Nat)(H:Hp):Prop:=∃ (acc:List Itm) (e:Nat) (vs:List V) (Δ:List ar),acc.length+j=24/\(∀ i ∈ acc,a9 L i)/\gx (fN (c4 ws L) ws) ws j e acc=res/\bN (fg R (Δ++F) L) vs acc/\Sep (pt p (wl vs)::pt a (bM R dx qa e)::pt qa (bT ws)::(G++(Δ++F))) H
def mz (ro:Ro K R)(ih:DS R L):xk R (L+1):=by
 intro k n a dx qa ws F G H Q E hk hs z q;have q:CV R a dx qa ws L G F Q E (pf (fN (c4 ws L) ws) ws n):=q;have ed:5-((L+1:Nat):Int)=4-(L:Int):=by omega
 unfold pf at q;delta bO;right;simp only[ro.g_DEEPEST];right;refine aL (decide_eq_false nofun) ?_;right;refine⟨_,19,_,_,_,rfl,z.at,rfl,rfl,?_⟩;right;refine eZ nofun z (λH1 e1 z1=>?_) (λe1 e H' z'=>?_)
 rotate_left
 .rw[if_neg (by rw[e1];exact Bool.false_ne_true)]at q;exact q e [] H' z'
 rw[if_pos e1]at q;right;refine⟨_,19,_,_,_,rfl,z1.at,rfl,rfl,?_⟩;right;refine aI nofun z1 (λH2 e2 z2=>?_) (λe2=>?_)
 .rw[if_pos e2]at q;right;rename_i p H3 z3;exact q p [] [] H3 ⟨by decide,λi hi=>nomatch hi⟩ .nil z3
 rw[if_neg (by rw[e2];exact Bool.false_ne_true)]at q;unfold qQ at q;right;rw[ed];refine ih (k:=k-1) nofun hs z1 ?_;cases eI:fN (c4 ws L) ws (n+1) with
 |no e=>rw[eI]at q;exact q
 |ok i e=>
  rw[eI]at q;have q:CV R a dx qa ws L G F Q E (gx (fN (c4 ws L) ws) ws 23 e [i]):=q;intro d Δ H3 oki hi z3;right;rename_i p H4 z4;refine⟨λm U H=>U=[some (v0 a),some (v4 (4-(L:Int))),some (v0 p)]/\Gm R p a dx qa ws L F G (gx (fN (c4 ws L) ws) ws 23 e [i]) m H,⟨23,rfl,[i],e,[v0 d],Δ,rfl,λx hx=>by rw[mem_singleton.mp hx];exact oki,rfl,bN.snoc .nil hi,z4⟩,?_⟩;rintro m U H ⟨rfl,acc,e5,vs,Δ5,hl,okA,er,al,z5⟩;have q:CV R a dx qa ws L G F Q E (gx (fN (c4 ws L) ws) ws m e5 acc):=by rw[er];exact q
  have hvl:=al.1;have fin:∀ {H:Hp},Sep (pt p (wl vs)::pt a (bM R dx qa e5)::pt qa (bT ws)::(G++(Δ5++F))) H->CV R a dx qa ws L G F Q E (if isAt ws e5 aR then .ok acc (e5+1) else .no e5)->wB (c8 5 bO.body) ⟨tab,R,ae tab R (k-1),true⟩ { nx:=λ_ H'=>Q wf H',rt:=Q } (λ_=>E) [some (v0 a),some (v4 (4-(L:Int))),some (v0 p)] H:=by
   intro H z q;right;refine⟨_,19,_,_,_,rfl,z.get .k1,rfl,rfl,?_⟩;right;refine eZ (O:=pt p (wl vs)::(G++(Δ5++F))) nofun (z.sub (.cons .k1 (.cons .k1 (.cons .e .refl)))) (λH1 e1 z1=>?_) (λe1 e H' z'=>?_)
   .rw[if_pos e1]at q;right;exact q p vs Δ5 H1 ⟨by omega,okA⟩ al (z1.sub (.cons .k2 (.cons .e (.cons .e .refl))))
   .rw[if_neg (by rw[e1];exact Bool.false_ne_true)]at q;refine q e (pt p (wl vs)::Δ5) H' ?_;have z2:=Sep.mv (P:=[nz (R.cad 2) [("at",v4 (e5:Int))] e false,pt p (wl vs)]) (Δ:=G) (L:=Δ5) (O:=F) z';exact z2
  right;simp only[ro.g_MOST_ITEMS];right;cases m with
  |zero=>
   refine aL (decide_eq_false nofun) ?_;refine aL rfl ?_;exact fin z5 q
  |succ m=>
   have q:CV R a dx qa ws L G F Q E (if isAt ws e5 bq then(match fN (c4 ws L) ws (e5+1) with| .no e=>.no e| .ok i e=>gx (fN (c4 ws L) ws) ws m e (acc++[i])) else if isAt ws e5 aR then .ok acc (e5+1) else .no e5):=q;refine aY (decide_eq_true nofun) ?_;right;refine⟨_,19,_,_,_,rfl,z5.get .k1,rfl,rfl,?_⟩;right;have z6:=z5.sub (Γ':=pt a (bM R dx qa e5)::pt qa (bT ws)::((pt p (wl vs)::G)++(Δ5++F))) (.cons .k1 (.cons .k1 (.cons .e .refl)));refine aI nofun z6 (λH7 e7 z7=>?_) (λe7=>?_)
   .rw[if_pos e7]at q;have er:(if isAt ws e5 bq then(match fN (c4 ws L) ws (e5+1) with| .no e=>Rd.no e| .ok i e=>gx (fN (c4 ws L) ws) ws m e (acc++[i])) else if isAt ws e5 aR then Rd.ok acc (e5+1) else Rd.no e5)=_:=er;rw[if_pos e7]at er;refine aY rfl ?_;refine⟨λσ' H'=>σ'=[some (v0 a),some (v4 (4-(L:Int))),some (v0 p)]/\Gm R p a dx qa ws L F G (gx (fN (c4 ws L) ws) ws 23 e [i]) m H',λσ' H' hN=>⟨m,Nat.lt_succ_self m,hN⟩,?_⟩;right;refine⟨_,_,rfl,z7.get .k2,?_⟩;right;refine ih (k:=k-1) (G:=pt p (wl vs)::G) (F:=Δ5++F) nofun hs z7 ?_;cases eJ:fN (c4 ws L) ws (e5+1) with
    |no e8=>
     rw[eJ]at q;intro e9 Δ9 H9 z9;refine q e9 (Δ9++(pt p (wl vs)::Δ5)) H9 ?_;have za:=Sep.mv (P:=nz (R.cad 2) [("at",v4 (e8:Int))] e9 false::(Δ9++[pt p (wl vs)])) (Δ:=G) (L:=Δ5) (O:=F) (by simpa using z9);simpa using za
    |ok i2 e8=>
     rw[eJ]at q er;intro d2 Δ9 H9 ok2 im2 z9;left;refine⟨_,z9.get .k2,jh z9 .k2 nofun λH10 za=>?_⟩;right;refine⟨acc++[i2],e8,vs++[v0 d2],Δ9++Δ5,?_,λx hx=>?_,er,?_,?_⟩
     .rw[db,gt];omega
     .rcases mem_append.mp hx with hx|hx
      .exact okA x hx
      .rw[mem_singleton.mp hx];exact ok2
     .rw[li];exact(al.map λv i=>fg.mono λA=>dN).snoc im2
     .rw[li];exact za.sub (.cons .k2 (.cons .e (.cons .e .refl)))
   .rw[if_neg (by rw[e7];exact Bool.false_ne_true)]at q;refine aL rfl ?_;exact fin z5 q
def DI (ro:Ro K R):∀ L,xk R L
 |0=>xR ro
 |L+1=>mz ro (oE ro (DI ro L))
end
section
variable {a dx qa:Addr}{ws:List Str}{n:Nat}
def uq {t:Str}(hk:1<=k)(ht:t.length<=100000)(hs:Txt.split t bQ=ws)(z:Sep (pt a (wp (R.cad 19) dx [])::O) H)(q:∀ qa H',Sep (pt a (bM R dx qa 0)::pt qa (bT ws)::O) H'->Q wf H'):ae tab R k 36 [v0 a,v6 t] H Q E:=by
 delta b9;right;refine⟨_,rfl,?_⟩;left;refine uB z (by decide+kernel) ht λqa H1 z1=>?_
 rw[show(Str.ofString " ")=bQ by decide+kernel,hs]at z1;right;rename_i H2 z2 H3 z3;exact q qa _ (z3.pull .k1)
def sX (hk:3<=k)(z:Sep (pt a (bM R dx qa n)::pt qa (bT ws)::O) H)(q:n=ws.length->Q wf H)(r:n≠ws.length->∀ e H',Sep (nz (R.cad 2) [("at",v4 (n:Int))] e false::O) H'->E e H'):ae tab R k 45 [v0 a] H Q E:=by
 delta dg;have e1:=z.at;have e2:=(z.pull .k1).at;unfold bM at e1;unfold bT at e2;have z1:=z.drop.drop;right;refine⟨_,19,_,_,_,rfl,z.at,rfl,rfl,?_⟩;right;delta dR;right;refine ak e1 rfl rfl rfl ?_;right;refine ak e1 rfl rfl rfl ?_;right;refine c7 e2 ?_;right
 by_cases h:n=ws.length
 .refine aY (by show((n:Int) ==((ws.map v6).length:Int))=true;rw[cr,h];exact beq_self_eq_true _) ?_;right;exact q h
 .refine aL (by show((n:Int) ==((ws.map v6).length:Int))=false;rw[cr];exact beq_eq_false_iff_ne.mpr nofun) ?_;right;refine ak e1 rfl rfl rfl ?_;right;exact λe he=>cB nofun (z1.new he) (λd H3 hs3=>⟨rfl,pw (G:=⟨tab,R,ae tab R (k-1),true⟩) hs3 .e rfl (λH4 hs4=>r h e H4 (vh hs4))⟩)
end
abbrev CU (ws:List Str):Rd (List Itm):=match c4 ws 4 0 with
 | .ok b m=>if m=ws.length then .ok b m else .no m
 | .no m=>.no m
abbrev GD (R:Rt)(G F:List ar)(Q:VK)(E:XK):Rd (List Itm)->Prop
 | .ok b _=>∀ l vs Δ H',iQ 3 b->bN (fg R (Δ++F) 3) vs b->Sep (pt l (wl vs)::(G++(Δ++F))) H'->Q (v0 l) H'
 | .no m=>∀ e Δ H',Sep (nz (R.cad 2) [("at",v4 (m:Int))] e false::(Δ++(G++F))) H'->E e H'
section
variable {F G:List ar}{ws:List Str}{t:Str}
def iu (ro:Ro K R)(hk:24<=k)(ht:t.length<=99999)(hs:Txt.split t bQ=ws)(z:Sep (G++F) H)(q:GD R G F Q E (CU ws)):ae tab R k 53 [v6 t] H Q E:=by
 have hw:∀ w ∈ ws,w.length<=100000:=λw hw=>by
  have h1:=yy hw;rw[<-hs,sG]at h1
  omega
 delta fP;unfold CU at q;right;intro x dx' g1 g2 g3;have z1:=(bX (C:=R.cad 19) z g1 g2 g3).sub (Γ':=pt x (wp (R.cad 19) dx' [])::(G++F)) (.cons .e (.drop .refl));refine uq nofun nofun hs z1 λqa H2 z2=>?_
 refine⟨rfl,?_⟩;right;delta fv;right;refine DI ro 4 (k:=k-1-1) (n:=0) nofun hw z2 ?_;cases eB:c4 ws 4 0 with
 |no m=>rw[eB]at q;exact q
 |ok b m=>
  rw[eB]at q;have q:GD R G F Q E (if m=ws.length then .ok b m else .no m):=q;intro l vs Δ H3 okb al z3;have z4:Sep (pt x (bM R dx' qa m)::pt qa (bT ws)::(pt l (wl vs)::(G++(Δ++F)))) H3:=z3.sub (.cons .k1 (.cons .k1 (.cons .e .refl)));right;refine⟨_,19,_,_,_,rfl,z4.at,rfl,rfl,?_⟩;right;refine sX nofun z4 (λhn=>?_) (λhn e H' z'=>?_)
  .rw[if_pos hn]at q;right;exact q l vs Δ H3 okb al z4.drop.drop
  .rw[if_neg hn]at q;refine q e (pt l (wl vs)::Δ) H' ?_;exact Sep.mv (P:=[nz (R.cad 2) [("at",v4 (m:Int))] e false,pt l (wl vs)]) (Δ:=G) (L:=Δ) (O:=F) z'
abbrev js (n:Nat)(b:List Itm):Str:=Txt.join bQ (aQ n b)
def ir {l:Addr}(ro:Ro K R)(hk:3*n+4<=k)(ok:iQ n b)(hl:(aQ n b).length<=9000)(ht:ax (aQ n b)<=1000000)(pl:au (pt l (wl vs)) (G++F) Δ)(a:bN (fg R F n) vs b)(z:Sep (G++F) H)(q:∀ H',Sep (G++F) H'->Q (v6 (js n b)) H'):ae tab R k 57 [v0 l] H Q E:=by
 delta f6;right;refine⟨_,rfl,?_⟩;left;refine⟨rfl,?_⟩;left;refine DT ro n (k:=k-1) nofun ok hl pl a z λp H1 z1=>?_
 refine iy (G:=⟨tab,R,ae tab R (k-1),true⟩) z1.at (by rw[ql];exact ht) (by decide+kernel) ?_;rw[show(Str.ofString " ")=bQ by decide+kernel];exact q _ z1.drop
end
@[irreducible] noncomputable def yZ (I:Nat->Addr->List V->Hp->Prop) (j:Nat) (D:Addr):VK:=λv H4=>∃ zs,H4 D=some (wl zs)/\zs.length<PySem.sizeLine/\∃ ys2,I (j+1) D ys2 (upd H4 D (wl (zs++[v])))
def yZ.mk {j:Nat}(h1:H3 D=some (wl ys))(hl:ys.length<=999)(h2:I (j+1) D (ys++[v]) (upd H3 D (wl (ys++[v])))):yZ I j D v H3:=by
 unfold yZ;exact⟨ys,h1,cO nofun,ys++[v],h2⟩
@[irreducible] noncomputable def tE (I:Nat->Addr->List V->Hp->Prop) (te:TE) (j:Nat) (D:Addr) (rest:St) (x:V):Bool->Hp->Prop:=λb H3=>(b=true->te (some x::rest) H3 λv H4=>yZ I j D v H4)/\(b=false->∃ ys2,I (j+1) D ys2 H3)
def tE.t {j:Nat}{x:V}{c:Bool}(e:c=true)(h:te (some x::rest) H3 λv H4=>yZ I j D v H4):tE I te j D rest x c H3:=by
 unfold tE;exact⟨λ_=>h,λz=>(by rw[e]at z;cases z)⟩
def tE.f {j:Nat}{x:V}{c:Bool}(e:c=false)(h:I (j+1) D ys H3):tE I te j D rest x c H3:=by
 unfold tE;exact⟨λz=>(by rw[e]at z;cases z),λ_=>⟨ys,h⟩⟩
def xM {KK:W.Frag}{tc:TT}(I:Nat->Addr->List V->Hp->Prop)(hl:∀ j D ys H,I j D ys H->cM KK H a xs) (h0:∀ D,H D=none->I 0 D [] (upd H D (wl [])))
  (hs:∀ j D ys x H',xs[j]? =some x->I j D ys H'->tc (some x::rest) H' (tE I te j D rest x))
  (hd:∀ D ys H',I xs.length D ys H'->Q (v0 D) H'):zJ tc te (CY KK a) (none::rest) H Q:=by
 unfold zJ;intro D hD;refine⟨λi m σ' H'=>m=xs.length-i/\i<=xs.length/\∃ ys x0,σ'=x0::rest/\I i D ys H',⟨xs.length,by simp,Nat.zero_le _,[],none,rfl,h0 D hD⟩,λi m σ' H' ⟨e,hi,ys,x0,e1,h⟩=>?_⟩;subst e1
 by_cases hlt:i<xs.length
 .refine .inr ⟨⟨xs,xs[i],hl i D ys H' h,lv hlt⟩,λσ2 H2=>∃ ys2 x2,σ2=x2::rest/\I (i+1) D ys2 H2,λσ2 H2 ⟨ys2,x2,f1,f3⟩=>⟨xs.length-(i+1),by omega,rfl,hlt,ys2,x2,f1,f3⟩,λx H'' y=>?_⟩;obtain⟨e1,hy⟩:=y;subst e1;have z:=hs i D ys x H'' (hy xs (hl i D ys H'' h)) h;have e:tE I te i D rest x=λb H3=>(b=true->te (some x::rest) H3 λv H4=>∃ zs,H4 D=some (wl zs)/\zs.length<PySem.sizeLine/\∃ ys2 x2,some x::rest=x2::rest/\I (i+1) D ys2 (upd H4 D (wl (zs++[v]))))/\(b=false->∃ ys2 x2,some x::rest=x2::rest/\I (i+1) D ys2 H3):=by
   funext b H3
   unfold tE;have e2:(λv H4=>yZ I i D v H4)=λv H4=>∃ zs,H4 D=some (wl zs)/\zs.length<PySem.sizeLine/\∃ ys2 x2,some x::rest=x2::rest/\I (i+1) D ys2 (upd H4 D (wl (zs++[v]))):=by
    funext v H4
    unfold yZ;exact propext ⟨λ⟨zs,a,b,ys2,c⟩=>⟨zs,a,b,ys2,_,rfl,c⟩,λ⟨zs,a,b,ys2,_,_,c⟩=>⟨zs,a,b,ys2,c⟩⟩
   rw[e2];exact propext ⟨λ⟨p,q⟩=>⟨p,λz=>let⟨y,w⟩:=q z;⟨y,_,rfl,w⟩⟩,λ⟨p,q⟩=>⟨p,λz=>let⟨y,_,_,w⟩:=q z;⟨y,w⟩⟩⟩
  rw[e]at z;exact z
 .have:i=xs.length:=by omega
  subst this;exact .inl ⟨⟨xs,hl _ D ys H' h,s0 _⟩,hd D ys H' h⟩
abbrev jH:V->Option V
 | v6 s=>some (v6 s)
 | v4 i=>some (v6 (toString i))
 |_=>none
abbrev Ab (v:V):Prop:=v=wf\/(∃ s,v=v6 s)\/∃ i:Int,v=v4 i/\ -1000000000<=i/\i<=1000000000
def xj {j:Nat}(h:vs[j]? =some v):(vs.take (j+1)).filterMap jH=(vs.take j).filterMap jH++(jH v).toList:=by
 rw[take_succ,h,List.filterMap_append];cases e:jH v<;>simp[e]
def rk {t:Addr}(hp:∀ v ∈ vs,Ab v) (hn:vs.length<=100) (z:Sep (tu t vs::O) H) (q:∀ p H',Sep (pt p (wl (vs.filterMap jH))::tu t vs::O) H'->Q (v0 p) H'):
  zJ (λσ' H' Q'=>wT ⟨tab,R,ae tab R k,true⟩ (.cmp .IsNot (.v 0) Ex.non) σ' H' Q' E) (λσ' H' Q'=>wE ⟨tab,R,ae tab R k,true⟩ (.bf Bf.str (.cons (.v 0) .nil)) σ' H' Q' E) (CY R.K t) [none] H Q:=by
 refine xM (xs:=vs) (λj D ys H=>ys=(vs.take j).filterMap jH/\Sep (pt D (wl ys)::tu t vs::O) H) (λj D ys H hI=>cM.of (hI.2.drop).atT) (λD hD=>⟨rfl,z.new hD⟩) (λj D ys x H' hx hI=>?_) (λD ys H' hI=>?_)
 .obtain⟨e,hs⟩:=hI;have hy:ys.length<=999:=by
   rw[e];have h1:=List.length_filterMap_le jH (vs.take j);have h2:=List.length_take_le j vs;have h3:(vs.take j).length<=vs.length:=List.length_take_le' j vs
   omega
  have hm:=xj hx;left;rcases hp x (dl hx) with rfl|⟨s,rfl⟩|⟨i,rfl,i0,i1⟩
  .refine bD ?_;refine tE.f (ys:=ys) rfl ⟨?_,hs⟩;rw[hm,e];simp[jH]
  .refine bD ?_;refine tE.t rfl ?_;left;refine yu ?_;refine yZ.mk hs.at hy ⟨?_,hs.set rfl⟩;rw[hm,e];simp[jH]
  .refine bD ?_;refine tE.t rfl ?_;left;refine kU i0 i1 ?_;refine yZ.mk hs.at hy ⟨?_,hs.set rfl⟩;rw[hm,e];simp[jH]
 .obtain⟨e,hs⟩:=hI;rw[e,List.take_length]at hs;exact q D H' hs
def uH {r:Rw}(ok:r.ok):∀ v ∈ r.tl,Ab v:=by
 intro v hv;cases r with
 |lg w=>
  rw[mem_singleton.mp hv];exact .inr (.inl ⟨_,rfl⟩)
 |sp s=>
  cases s with
  |set b i=>
   simp only[Rw.tl,Sp.tl,mo,not_mem_nil,or_false]at hv;rcases hv with rfl|rfl|rfl
   .exact .inr (.inl ⟨_,rfl⟩)
   .exact .inr (.inl ⟨_,rfl⟩)
   .exact .inr (.inr ⟨i,rfl,ok.1,ok.2⟩)
  |add b i=>
   simp only[Rw.tl,Sp.tl,mo,not_mem_nil,or_false]at hv;rcases hv with rfl|rfl|rfl
   .exact .inr (.inl ⟨_,rfl⟩)
   .exact .inr (.inl ⟨_,rfl⟩)
   .exact .inr (.inr ⟨i,rfl,ok.1,ok.2⟩)
  |take b c=>
   simp only[Rw.tl,Sp.tl,mo,not_mem_nil,or_false]at hv;rcases hv with rfl|rfl|rfl<;>exact .inr (.inl ⟨_,rfl⟩)
  |read b=>
   simp only[Rw.tl,Sp.tl,mo,not_mem_nil,or_false]at hv;rcases hv with rfl|rfl<;>exact .inr (.inl ⟨_,rfl⟩)
  |write b=>
   simp only[Rw.tl,Sp.tl,mo,not_mem_nil,or_false]at hv;rcases hv with rfl|rfl<;>exact .inr (.inl ⟨_,rfl⟩)
 |hop n o=>
  obtain⟨⟨n0,n1⟩,ho⟩:=ok;simp only[Rw.tl,mo,not_mem_nil,or_false]at hv;rcases hv with rfl|rfl|rfl
  .exact .inr (.inl ⟨_,rfl⟩)
  .exact .inr (.inr ⟨n,rfl,by omega,by omega⟩)
  .cases o with
   |none=>exact .inl rfl
   |some i=>exact .inr (.inr ⟨i,rfl,by rcases ho with rfl|rfl<;>decide,by rcases ho with rfl|rfl<;>decide⟩)
def i6 {t:Addr}{r:Rw}(hk:1<=k)(ok:r.ok)(z:Sep (tu t r.tl::O) H)(q:∀ p H',Sep (pt p (wl r.wd)::tu t r.tl::O) H'->Q (v0 p) H'):ae tab R k 63 [v0 t] H Q E:=by
 delta fm;have hl:r.tl.length<=100:=by cases r with|lg w=>exact pi rfl|sp s=>(cases s<;>exact pi rfl)|hop n o=>exact pi rfl
 right;refine D0 (cM.of z.atT) ?_;refine rk (uH ok) hl z (λp H1 z1=>?_);clear z;cases r with
 |lg w=>
  have z2:Sep (pt p (wl [v6 w.s])::tu t [v6 w.s]::O) H1:=z1;clear z1;right;refine aL (by cases w<;>decide+kernel) ?_;right;exact q p H1 z2
 |sp s=>
  cases s with
  |set b i=>
   have z2:Sep (pt p (wl [v6 "set",v6 b.nm,v6 (toString i)])::tu t [v6 "set",v6 b.nm,v4 i]::O) H1:=z1;clear z1;right
   repeat walk_at "sc"
   exact q p H1 z2
  |add b i=>
   have z2:Sep (pt p (wl [v6 "add",v6 b.nm,v6 (toString i)])::tu t [v6 "add",v6 b.nm,v4 i]::O) H1:=z1;clear z1;right
   repeat walk_at "sc"
   exact q p H1 z2
  |take b c=>
   have z2:Sep (pt p (wl [v6 "take",v6 b.nm,v6 c.nm])::tu t [v6 "take",v6 b.nm,v6 c.nm]::O) H1:=z1;clear z1;right
   repeat walk_at "sc"
   exact q p H1 z2
  |read b=>
   have z2:Sep (pt p (wl [v6 "read",v6 b.nm])::tu t [v6 "read",v6 b.nm]::O) H1:=z1;clear z1;right
   repeat walk_at "sc"
   exact q p H1 z2
  |write b=>
   have z2:Sep (pt p (wl [v6 "write",v6 b.nm])::tu t [v6 "write",v6 b.nm]::O) H1:=z1;clear z1;right
   repeat walk_at "sc"
   exact q p H1 z2
 |hop n o=>
  cases o with
  |none=>
   have z2:Sep (pt p (wl [v6 "hop",v6 (toString n)])::tu t [v6 "hop",v4 n,wf]::O) H1:=z1;clear z1;right
   repeat walk_at "sc"
   refine bD ?_;refine aL rfl ?_;right;exact q p H1 z2
  |some i=>
   have z2:Sep (pt p (wl [v6 "hop",v6 (toString n),v6 (toString i)])::tu t [v6 "hop",v4 n,v4 i]::O) H1:=z1;clear z1;right
   repeat walk_at "sc"
   refine bD ?_;refine aY rfl ?_;right;rename_i p9 H9 z9;have z10:=z9.sub (Γ':=pt p9 _::tu t [v6 "hop",v4 n,v4 i]::O) (by ac_nf);exact q p9 H9 z10
abbrev jl (ws:List Str):List Nat:=(Txt.join bQ ws).cps.toList
def bh (x:Str):jl [x]=x.cps.toList:=by unfold jl;rw[show Txt.join bQ [x]=Str.join bQ [x] from StrLaws.glued_eq_join _ _];rfl
def aO {x y:Str}:jl (x::y::r)=x.cps.toList++32::jl (y::r):=by
 unfold jl;rw[show Txt.join bQ (x::y::r)=Str.join bQ (x::y::r) from StrLaws.glued_eq_join _ _,show Txt.join bQ (y::r)=Str.join bQ (y::r) from StrLaws.glued_eq_join _ _,join_cons]
 rfl
def bc:∀ {a b:List Str},a≠[]->b≠[]->jl (a++b)=jl a++32::jl b
 | [],_,h,_=>absurd rfl h
 |_::_,[],_,h=>absurd rfl h
 | [x],y::r,_,_=>by rw[bh];exact aO
 |x::x2::a,y::r,_,h=>by
  have ih:=bc (a:=x2::a) (b:=y::r) (λz=>nomatch z) h;rw[cons_append,cons_append,aO,aO,li];exact congrArg (λz=>x.cps.toList++32::z) ih
noncomputable abbrev rR:Str:=" ; "
def FR:(rR).cps.toList=[32,59,32]:=by decide+kernel
def qe {x:List Str}{r:List (List Str)}(h:x≠[]):aE (x::r)≠[]:=by
 intro e;have e:x++(r.map λy=>bq::y).flatten=[]:=e;exact h (List.append_eq_nil_iff.mp e).1
def my:∀ {l:List (List Str)},l≠[]->(∀ x ∈ l,x≠[])->(Txt.join rR (l.map (Txt.join bQ))).cps.toList=jl (aE l)
 | [],h,_=>absurd rfl h
 | [x],_,_=>by
  rw[show Txt.join rR ([x].map (Txt.join bQ))=Str.join rR [Txt.join bQ x] from StrLaws.glued_eq_join _ _];show jl x=jl (x++[]);rw[append_nil]
 |x::y::r,_,h=>by
  have ih:=my (l:=y::r) (λz=>nomatch z) (λz hz=>h z (f8 _ hz));have hx:=h x lw;have hy:=h y (f8 _ lw);have e1:aE (x::y::r)=x++([bq]++aE (y::r)):=by
   show x++((bq::y)++(r.map λy=>bq::y).flatten)=x++([bq]++(y++(r.map λy=>bq::y).flatten))
   rfl
  rw[e1,bc hx (by simp),bc (a:=[bq]) (cons_ne_nil _ _) (qe hy),bh,<-ih];rw[show Txt.join rR ((x::y::r).map (Txt.join bQ))=Str.join rR ((x::y::r).map (Txt.join bQ)) from StrLaws.glued_eq_join _ _,show Txt.join rR ((y::r).map (Txt.join bQ))=Str.join rR ((y::r).map (Txt.join bQ)) from StrLaws.glued_eq_join _ _];show(Str.join rR (Txt.join bQ x::Txt.join bQ y::r.map (Txt.join bQ))).cps.toList=_;rw[join_cons,FR];have e2:(bq).cps.toList=[59]:=by decide+kernel
  rw[e2]
  rfl
abbrev rG (n:Nat)(i:Itm):Str:=Txt.join bQ (ao n i)
def Dt (r:Rw):r.zs≠[]:=by
 cases r with
 |lg w=>exact λh=>nomatch h
 |sp s=>cases s<;>exact λh=>nomatch h
 |hop n o=>cases o<;>exact λh=>nomatch h
def vV {i:Itm}(h:a9 n i):ao n i≠[]:=by
 cases i with
 |row r=>cases n<;>exact Dt r
 |dO w=>cases n<;>exact λh=>nomatch h
 |tms m b=>cases n with
  |zero=>exact h.elim
  |succ n=>exact λh=>nomatch h
 |whn o b c=>cases n with
  |zero=>exact h.elim
  |succ n=>exact λh=>nomatch h
def aD (a b:Str):(a++b).length=a.length+b.length:=by
 rw[dm,W.KT.app_list,db,<-dm,<-dm]
def cV (a b:Str):(a++b).cps.toList=a.cps.toList++b.cps.toList:=W.KT.app_list a b
def Dm (hb:b≠[])(ok:∀ i ∈ b,a9 n i):(js n b).cps.toList=[40,32]++(Txt.join rR (b.map (rG n))).cps.toList++[32,41]:=by
 show jl (bR::(aE (b.map (ao n))++[aR]))=_;have h1:∀ x ∈ b.map (ao n),x≠[]:=λx hx=>by
  obtain⟨i,hi,rfl⟩:=List.mem_map.mp hx;exact vV (ok i hi)
 have h2:b.map (ao n)≠[]:=by simpa using hb
 have h3:aE (b.map (ao n))≠[]:=by
  cases b with
  |nil=>exact absurd rfl hb
  |cons i r=>exact qe (h1 _ lw)
 rw[show bR::(aE (b.map (ao n))++[aR])=[bR]++(aE (b.map (ao n))++[aR]) from rfl,bc (a:=[bR]) (cons_ne_nil _ _) (by simp),bc h3 (cons_ne_nil _ _),bh,bh,<-my h2 h1,List.map_map];have e1:(bR).cps.toList=[40]:=by decide+kernel
 have e2:(aR).cps.toList=[41]:=by decide+kernel
 rw[e1,e2];simp
 rfl
def pT:js n []=("( )":Str):=PyProof.Rows.ext_toList (by
 show jl [bR,aR]=_;rw[aO,bh]
 decide+kernel)
def eq_nil {b:Addr}(e1:H a=some (wl xs))(e2:H b=some (wl []))(ne:a≠b)(q:Q (.bl (decide (xs.length=0))) H):eh K false (v0 a) (v0 b) H Q:=by
 by_cases h:xs.length=0
 .rw[decide_eq_true h]at q;refine lO (.ll (n:=0) (e:=λ_=>true) (aV.of e1) (aV.of e2) h (λj x y _ hy=>nomatch hy)) (by decide) ne ?_;rw[h];exact q
 .rw[decide_eq_false h]at q;exact lO (.lln (n:=0) (aV.of e1) (aV.of e2) h) (by decide) ne q
def Aq {p:Addr}{o o':HO}{G:List ar}(h:pt a o ∈ F)(z:Sep (pt p o'::(G++F)) H):a≠p:=let⟨_,pl⟩:=av h;(z.pull (.t (ah pl))).ne
def ne_nil {b:Addr}(e1:H a=some (wl xs))(e2:H b=some (wl []))(ne:a≠b)(q:Q (.bl (!decide (xs.length=0))) H):eh K true (v0 a) (v0 b) H Q:=by
 by_cases h:xs.length=0
 .rw[decide_eq_true h]at q;refine k8 (.ll (n:=0) (e:=λ_=>true) (aV.of e1) (aV.of e2) h (λj x y _ hy=>nomatch hy)) (by decide) ne ?_;rw[h];exact q
 .rw[decide_eq_false h]at q;exact k8 (.lln (n:=0) (aV.of e1) (aV.of e2) h) (by decide) ne q
abbrev cg (F:List ar):Nat->V->Itm->Prop
 |_,v,.row r=>∃ t s,v=v0 t/\tu t [v6 "deed",v0 s] ∈ F/\tu s r.tl ∈ F
 |_,v,.dO w=>∃ t,v=v0 t/\tu t [v6 "do",v6 w] ∈ F
 |n+1,v,.tms m b=>∃ t l vs,v=v0 t/\tu t [v6 "times",v4 m,v0 l] ∈ F/\pt l (wl vs) ∈ F/\bN (cg F n) vs b
 |n+1,v,.whn o b c=>∃ t l vs l' vs',v=v0 t/\tu t [v6 "when",v4 o,v0 l,v0 l'] ∈ F/\(pt l (wl vs) ∈ F/\bN (cg F n) vs b)/\pt l' (wl vs') ∈ F/\bN (cg F n) vs' c
 |0,_,.tms _ _=>False
 |0,_,.whn _ _ _=>False
def cg.mono {F':List ar}(h:∀ A ∈ F,A ∈ F'):∀ {n:Nat}{v:V}{i:Itm},cg F n v i->cg F' n v i:=by
 intro n
 induction n with
 |zero=>
  intro v i;cases i with
  |row r=>exact λ⟨t,s,e,m,m2⟩=>⟨t,s,e,h _ m,h _ m2⟩
  |dO w=>exact λ⟨t,e,m⟩=>⟨t,e,h _ m⟩
  |tms m b=>exact λz=>z
  |whn o b c=>exact λz=>z
 |succ n ih=>
  intro v i;cases i with
  |row r=>exact λ⟨t,s,e,m,m2⟩=>⟨t,s,e,h _ m,h _ m2⟩
  |dO w=>exact λ⟨t,e,m⟩=>⟨t,e,h _ m⟩
  |tms m b=>exact λ⟨t,l,vs,e,m1,m2,a⟩=>⟨t,l,vs,e,h _ m1,h _ m2,a.map λv i=>ih⟩
  |whn o b c=>exact λ⟨t,l,vs,l',vs',e,m1,⟨m2,a⟩,m3,a'⟩=>⟨t,l,vs,l',vs',e,h _ m1,⟨h _ m2,a.map λv i=>ih⟩,h _ m3,a'.map λv i=>ih⟩
abbrev AO (R:Rt)(n:Nat):Prop:=∀ {k:Nat}{F G Δ:List ar}{l:Addr}{vs:List V}{b:List Itm}{H:Hp}{Q:VK}{E:XK},2*n+3<=k->iQ n b->ax (aQ n b)<=90000->au (pt l (wl vs)) (G++F) Δ->bN (cg F n) vs b->Sep (G++F) H->(∀ H',Sep (G++F) H'->Q (v6 (js n b)) H')->ae tab R k 68 [v0 l] H Q E
abbrev Dr (R:Rt)(n:Nat):Prop:=∀ {k:Nat}{F G:List ar}{v:V}{i:Itm}{H:Hp}{Q:VK}{E:XK},2*n+2<=k->a9 n i->ax (ao n i)<=90000->cg F n v i->Sep (G++F) H->(∀ H',Sep (G++F) H'->Q (v6 (rG n i)) H')->ae tab R k 67 [v] H Q E
def gC:(js n b).length<=ax (aQ n b):=rS _
def AJ:((Str.ofString "times "++nw m)++Str.ofString " ")++js n b=rG (n+1) (.tms m b):=PyProof.Rows.ext_toList (by
 show _=jl ([j3,nw m]++aQ n b);rw[bc (a:=[j3,nw m]) (cons_ne_nil _ _) eL,aO,bh,cV,cV,cV,show(j3).cps.toList=[116,105,109,101,115] by decide+kernel,show(Str.ofString "times ").cps.toList=[116,105,109,101,115,32] by decide+kernel,show(Str.ofString " ").cps.toList=[32] by decide+kernel];show _=_++32::(js n b).cps.toList;simp)
def wM {o:Int}:((Str.ofString "when "++nw o)++Str.ofString " ")++js n b=rG (n+1) (.whn o b []):=PyProof.Rows.ext_toList (by
 show _=jl ([dq,nw o]++(aQ n b++[]));rw[append_nil,bc (a:=[dq,nw o]) (cons_ne_nil _ _) eL,aO,bh,cV,cV,cV,show(dq).cps.toList=[119,104,101,110] by decide+kernel,show(Str.ofString "when ").cps.toList=[119,104,101,110,32] by decide+kernel,show(Str.ofString " ").cps.toList=[32] by decide+kernel];show _=_++32::(js n b).cps.toList;simp)
def xP {o:Int}{c:List Itm}(hc:c≠[]):((((Str.ofString "when "++nw o)++Str.ofString " ")++js n b)++Str.ofString " else ")++js n c=rG (n+1) (.whn o b c):=PyProof.Rows.ext_toList (by
 show _=jl ([dq,nw o]++(aQ n b++iq (c.map (ao n))));have e0:iq (c.map (ao n))=[jx]++aQ n c:=by unfold iq;rw[cr,if_neg (by simpa using hc)];rfl
 rw[e0,bc (a:=[dq,nw o]) (cons_ne_nil _ _) (by simp),bc (a:=aQ n b) eL (by simp),bc (a:=[jx]) (cons_ne_nil _ _) eL,aO,bh,bh,cV,cV,cV,cV,cV,show(dq).cps.toList=[119,104,101,110] by decide+kernel,show(Str.ofString "when ").cps.toList=[119,104,101,110,32] by decide+kernel,show(Str.ofString " ").cps.toList=[32] by decide+kernel,show(Str.ofString " else ").cps.toList=[32,101,108,115,101,32] by decide+kernel,show(jx).cps.toList=[101,108,115,101] by decide+kernel];show _=_++32::((js n b).cps.toList++32::(_++32::(js n c).cps.toList));simp)
section
variable {F G:List ar}{v:V}{n:Nat}
def wj (ro:Ro K R)(ih:∀ m,n=m+1->AO R m):Dr R n:=by
 intro k F G v i H Q E hk ok hl hi z q;delta cH;cases i with
 |row r=>
  obtain⟨t,s,rfl,m1,m2⟩:∃ t s,v=v0 t/\tu t [v6 "deed",v0 s] ∈ F/\tu s r.tl ∈ F:=by cases n<;>exact hi
  have ok':r.ok:=by cases n<;>exact ok
  have q:∀ H',Sep (G++F) H'->Q (v6 (Txt.join bQ r.zs)) H':=by cases n<;>exact q
  have hl:ax r.zs<=90000:=by cases n<;>exact hl
  have e:=g9 m1 z;right;refine aB e rfl ?_;right;refine⟨_,rfl,?_⟩;left;refine⟨rfl,?_⟩;left;refine aB e rfl ?_;left;refine i6 (O:=G++F) nofun ok' (Sep.EJ (g9 m2 z) z) λp H1 z1=>?_
  rw[Rw.Ae]at z1;refine iy (G:=⟨tab,R,ae tab R (k-1),true⟩) z1.at (by rw[ql];omega) (by decide+kernel) ?_;rw[show(Str.ofString " ")=bQ by decide+kernel];exact q _ z1.drop.drop
 |dO w=>
  obtain⟨t,rfl,m1⟩:∃ t,v=v0 t/\tu t [v6 "do",v6 w] ∈ F:=by cases n<;>exact hi
  have hn:Nm w:=by cases n<;>exact ok
  have q:∀ H',Sep (G++F) H'->Q (v6 (Txt.join bQ [qK,w])) H':=by cases n<;>exact q
  have e:=g9 m1 z;right;refine aB e rfl ?_;right;refine aB e rfl ?_;right;refine aB e rfl ?_;left;refine⟨by have:=hn.1.2;rw[show(Str.ofString "do ").length=3 by decide+kernel];omega,?_⟩;have e2:(Str.ofString "do ")++w=Txt.join bQ [qK,w]:=PyProof.Rows.ext_toList (by
   show _=jl [qK,w];rw[aO,bh,cV,show(Str.ofString "do ").cps.toList=[100,111,32] by decide+kernel,show(qK).cps.toList=[100,111] by decide+kernel]
   rfl)
  rw[e2];exact q _ z
 |tms m b=>
  cases n with
  |zero=>exact hi.elim
  |succ n=>
   obtain⟨t,l,vs,rfl,m1,m2,a⟩:=hi;obtain⟨Δ,pl⟩:=av m2;have e:=g9 m1 z;have ok1:=ok.1;have hl:ax (j3::nw m::aQ n b)<=90000:=hl;rw[aa,aa]at hl;right;refine aB e rfl ?_;right;refine aB e rfl ?_;right;refine aB e rfl ?_;right;refine aB e rfl ?_;right;refine gb nofun ?_;left;refine⟨by rw[show(Str.ofString "times ").length=6 by decide+kernel];omega,?_⟩;left;refine⟨by rw[aD,show(Str.ofString "times ").length=6 by decide+kernel,show(Str.ofString " ").length=1 by decide+kernel];omega,?_⟩;right;refine aB e rfl ?_;right;refine ih n rfl nofun ok.2 nofun (ah pl) a z λH1 z1=>?_
   left;have:=gC (n:=n) (b:=b);refine⟨by rw[aD,aD,show(Str.ofString "times ").length=6 by decide+kernel,show(Str.ofString " ").length=1 by decide+kernel];omega,?_⟩;rw[AJ];exact q _ z1
 |whn o b c=>
  cases n with
  |zero=>exact hi.elim
  |succ n=>
   obtain⟨t,l,vs,l',vs',rfl,m1,⟨m2,a⟩,m3,a'⟩:=hi;obtain⟨Δ,pl⟩:=av m2;obtain⟨Δ',pl'⟩:=av m3;have e:=g9 m1 z;have ok1:=ok.1;have hl:ax (dq::nw o::(aQ n b++iq (c.map (ao n))))<=90000:=hl;rw[aa,aa,az]at hl;right;refine aB e rfl ?_;right;refine aB e rfl ?_;right;refine aB e rfl ?_;right;refine aB e rfl ?_;right;refine gb nofun ?_;left;refine⟨by rw[show(Str.ofString "when ").length=5 by decide+kernel];omega,?_⟩;left;refine⟨by rw[aD,show(Str.ofString "when ").length=5 by decide+kernel,show(Str.ofString " ").length=1 by decide+kernel];omega,?_⟩;right;refine aB e rfl ?_;right;refine ih n rfl nofun ok.2.1 nofun (ah pl) a z λH1 z1=>?_
   left;have h1:=gC (n:=n) (b:=b);have l1:(((Str.ofString "when "++nw o)++Str.ofString " ")).length=6+(nw o).length:=by rw[aD,aD,show(Str.ofString "when ").length=5 by decide+kernel,show(Str.ofString " ").length=1 by decide+kernel];omega
   refine⟨by rw[l1];omega,?_⟩;right;refine aB (g9 m1 z1) rfl ?_;right;rename_i pn H2 z2;refine ne_nil (fz (G:=_::G) m3 z2) z2.at (Aq m3 z2) ?_
   by_cases g:vs'.length=0
   .have hc:c=[]:=length_eq_zero_iff.mp (by rw[<-a'.1];exact g);subst hc;rw[decide_eq_true g];refine aL rfl ?_;right;rw[wM];exact q _ z2.drop
   .have hc:c≠[]:=λh=>g (by rw[a'.1,h];rfl)
    have e0:iq (c.map (ao n))=[jx]++aQ n c:=by unfold iq;rw[cr,if_neg (by simpa using hc)];rfl
    rw[e0,az,aa]at hl;rw[decide_eq_false g];refine aY rfl ?_;left;refine⟨by rw[aD,l1,show(Str.ofString " else ").length=6 by decide+kernel];omega,?_⟩;right;refine aB (g9 (G:=_::G) m1 z2) rfl ?_;right;refine ih n rfl (G:=pt pn _::G) nofun ok.2.2 nofun (.t (ah pl')) a' z2 λH3 z3=>?_
    left;have h2:=gC (n:=n) (b:=c);refine⟨by rw[aD,aD,l1,show(Str.ofString " else ").length=6 by decide+kernel];omega,?_⟩;right;rw[xP hc];exact q _ z3.drop
def qp (hi:Dr R n):AO R n:=by
 intro k F G Δ l vs b H Q E hk ok hl pl a z q;delta gK;right;rename_i pn H1 z1;refine eq_nil (z1.get (.t pl)) z1.at ((z1.pull (.t pl)).ne) ?_;have hb:vs.length=b.length:=a.1;have hl30:=ok.1
 by_cases g:vs.length=0
 .have hc:b=[]:=length_eq_zero_iff.mp (by rw[<-hb];exact g);subst hc;rw[decide_eq_true g];right;have:=q _ z1.drop;rw[pT]at this;exact this
 .have hc:b≠[]:=λh=>g (by rw[hb,h];rfl)
  rw[decide_eq_false g];right;refine⟨_,rfl,?_⟩;left;refine⟨rfl,?_⟩;left;have z2:=z1.drop;refine AU (z2.get pl) ?_;refine CS (xs:=vs) nofun (λD ys H=>ys=((b.take ys.length).map (rG n)).map v6/\Sep (pt D (wl ys)::(G++F)) H) (λD ys H hI=>aV.of (hI.2.get (.t pl))) (λD hD=>⟨rfl,z2.new (o:=wl []) hD⟩) (λD ys x H hx hI=>?_) (λD ys H hly hI=>?_)
  .obtain⟨e1,z3⟩:=hI;obtain⟨i,ei,hi2⟩:=a.get hx;have him:=dl ei;have hyl:=(tz.mp hx).1;have hwt:=yM (n:=n) him;right;refine hi (k:=k-1) (G:=pt D (wl ys)::G) nofun (ok.2 i him) nofun hi2 z3 λH4 z4=>?_
   refine oY.mk z4.at nofun ⟨?_,z4.set rfl⟩;rw[db,gt,take_succ,ei,ge,ge,<-e1]
   rfl
  .obtain⟨e1,z3⟩:=hI;rw[hly,hb,take_of_length_le (s0 _)]at e1;subst e1;have hT:=Dm hc (λi hi=>ok.2 i hi);have hL:=gC (n:=n) (b:=b);have hJ:(Txt.join rR (b.map (rG n))).length+4=(js n b).length:=by
    rw[dm,dm,hT];simp
   have hS:((b.map (rG n)).map (·.length)).sum+(b.map (rG n)).length<=1000000:=by
    have key:∀ c:List Itm,(∀ i ∈ c,a9 n i)->((c.map (rG n)).map (·.length)).sum+c.length=((c.map (ao n)).map ax).sum:=λc=>by
     induction c with
     |nil=>intro _;rfl
     |cons i r ih=>
      intro h;have h1:=ih λj hj=>h j (f8 _ hj)
      have h2:(rG n i).length+1=ax (ao n i):=by
       rw[<-fU (vV (h i lw))];show(Txt.join bQ (ao n i)).length+1=_;rw[show Txt.join bQ (ao n i)=Str.join bQ (ao n i) from StrLaws.glued_eq_join _ _]
      simp only[map_cons,sum_cons,length_cons]
      omega
    have h1:=key b λi hi=>ok.2 i hi
    have h2:=wL (l:=b.map (ao n));have h3:ax (aE (b.map (ao n)))+4=ax (aQ n b):=by
     show _=ax (bR::(aE _++[aR]));rw[aa,az,aa,show(bR).length=1 by decide+kernel,show(aR).length=1 by decide+kernel,show ax []=0 from rfl]
     omega
    rw[cr]
    omega
   left;refine iy (G:=⟨tab,R,ae tab R (k-1),true⟩) (zs:=b.map (rG n)) z3.at hS (by decide+kernel) ?_;have e3:(Str.ofString " ; ")=rR:=rfl;rw[e3];left;refine⟨by rw[show(Str.ofString "( ").length=2 by decide+kernel];omega,?_⟩;left;refine⟨by rw[aD,show(Str.ofString "( ").length=2 by decide+kernel,show(Str.ofString " )").length=2 by decide+kernel];omega,?_⟩;have e4:(Str.ofString "( "++Txt.join rR (b.map (rG n)))++Str.ofString " )"=js n b:=PyProof.Rows.ext_toList (by
    rw[hT,cV,cV,show(Str.ofString "( ").cps.toList=[40,32] by decide+kernel,show(Str.ofString " )").cps.toList=[32,41] by decide+kernel])
   rw[e4];exact q _ z3.drop
def uo (ro:Ro K R):∀ n,AO R n
 |0=>qp (wj ro λm e=>absurd e nofun)
 |n+1=>qp (wj ro λm e=>by cases e;exact uo ro n)
end
abbrev LsOk (R:Rt)(n:Nat):Prop:=∀ {k:Nat}{F G Δ Δ':List ar}{l l':Addr}{vs us:List V}{b:List Itm}{H:Hp}{Q:VK}{E:XK},2*n+3<=k->iQ n b->au (pt l (wl vs)) (G++F) Δ->bN (fg R F n) vs b->au (pt l' (wl us)) (G++F) Δ'->bN (cg F n) us b->Sep (G++F) H->(∀ H',Sep (G++F) H'->Q (.bl true) H')->ae tab R k 70 [v0 l,v0 l'] H Q E
abbrev Ax (R:Rt)(n:Nat):Prop:=∀ {k:Nat}{F G:List ar}{v u:V}{i:Itm}{H:Hp}{Q:VK}{E:XK},2*n+2<=k->a9 n i->fg R F n v i->cg F n u i->Sep (G++F) H->(∀ H',Sep (G++F) H'->Q (.bl true) H')->ae tab R k 71 [v,u] H Q E
def tY (r:Rw):tab.oc.contains r.cl=true/\tab.sub.lookup (r.cl,3)=some true:=by
 cases r with
 |lg w=>cases w<;>exact⟨rfl,rfl⟩
 |sp s=>cases s<;>exact⟨rfl,rfl⟩
 |hop n o=>exact⟨rfl,rfl⟩
def lT {b:Addr}(h1:H a=some (wn xs))(h2:H b=some (wn xs))(hf:∀ v ∈ xs,aM v=true):iA K H 2 (v0 a) (v0 b) true:=by
 have z:=iA.tt (K:=K) (n:=0) (e:=λ_=>true) (cM.of h1) (cM.of h2) (λj x y e1 e2=>by
  rw[e1]at e2;cases e2;have f:=hf x (dl e1);have z:=iA.flat (K:=K) (H:=H) (n:=1) f f
  rwa [cG f]at z)
 rwa [show((List.range (min xs.length xs.length)).all (λ_=>true)&&xs.length ==xs.length)=true by simp]at z
section
variable {F G:List ar}{v:V}{n:Nat}
def wa (ro:Ro K R)(ih:∀ m,n=m+1->LsOk R m):Ax R n:=by
 intro k F G v u i H Q E hk ok hi hj z q;delta dz;cases i with
 |row r=>
  obtain⟨t,s,rfl,m1,m2⟩:∃ t s,u=v0 t/\tu t [v6 "deed",v0 s] ∈ F/\tu s r.tl ∈ F:=by cases n<;>exact hj
  obtain⟨d,rfl,m⟩:∃ d,v=v0 d/\tH R d r ∈ F:=by cases n<;>exact hi
  have ok':r.ok:=by cases n<;>exact ok
  have e:=g9 m1 z;obtain⟨x,fs,ed⟩:=EF m z;obtain⟨o1,o2⟩:=tY r;obtain⟨fn,h1,h2,h3⟩:=ng (R:=R) r ok';obtain⟨Δ,pl⟩:=av m;right;refine aB e rfl ?_;right;refine cE ed o1 o2 ?_;right;refine iJ (t9 r) z (ah pl) ?_ h1 ?_
  .cases r with
   |lg w=>rfl
   |sp s=>cases s<;>rfl
   |hop n o=>rfl
  left;refine gq (vs':=[v0 d]) (by show _::([]++dflt _ _ 1)=_;rw[h2];rfl) ?_;refine h3 nofun z (ah pl) (λp H7 z7=>?_);right;refine aB (g9 (G:=_::G) m1 z7) rfl ?_;right;refine i6 (O:=pt p _::(G++F)) nofun ok' (Sep.EJ (g9 (G:=_::G) m2 z7) z7) λp2 H8 z8=>?_
  refine lO (n:=2) (c:=true) (uE (n:=0) (z8.get .k2) z8.at (Rw.w6 r)) (by decide) ((z8.pull .k2).ne) ?_;exact q _ z8.drop.drop.drop
 |dO w=>
  obtain⟨t,rfl,m1⟩:∃ t,u=v0 t/\tu t [v6 "do",v6 w] ∈ F:=by cases n<;>exact hj
  obtain⟨d,x,rfl,m⟩:∃ d dx,v=v0 d/\pt d (wp (R.cad 10) dx [("called",v6 w)]) ∈ F:=by cases n<;>exact hi
  have e:=g9 m1 z;have ed:=fz m z;right;refine aB e rfl ?_;right;refine aB e rfl ?_;right;refine cE ed rfl rfl ?_;right;refine⟨_,10,_,_,_,rfl,ed,rfl,rfl,?_⟩;right;delta jS;right;refine ak ed rfl rfl rfl ?_;right;rename_i p1 H1 z1;refine aB (g9 (G:=_::G) m1 z1) rfl ?_;right;rename_i p2 H2 z2;refine lO (n:=2) (c:=true) (lT (z2.get .k1) z2.at (λv hv=>by
   simp only[mo,not_mem_nil,or_false]at hv;rcases hv with rfl|rfl<;>rfl)) (by decide) ((z2.pull .k1).ne) ?_
  exact q _ z2.drop.drop
 |tms m b=>
  cases n with
  |zero=>exact hi.elim
  |succ n=>
   obtain⟨t,l',us,rfl,m1,m2,a'⟩:=hj;obtain⟨d,x,l,vs,rfl,m3,m4,a⟩:=hi;obtain⟨Δ',pl'⟩:=av m2;have e:=g9 m1 z;have ed:=fz m3 z;right;refine aB e rfl ?_;right;refine aB e rfl ?_;right;refine aB e rfl ?_;right;refine cE ed rfl rfl ?_;right;refine⟨_,11,_,_,_,rfl,ed,rfl,rfl,?_⟩;right;delta cX;right;refine ak ed rfl rfl rfl ?_;right;refine ak ed rfl rfl rfl ?_;right;refine aU z (fz m4 z) λp1 H1 z1=>?_
   right;rename_i p2 H2 z2;refine Dg z2 z2.at (λh=>absurd (show 2=3 from h.2) (by decide)) λp3 H3 z3=>?_
   right;refine aB (g9 (G:=_::_::_::G) m1 z3) rfl ?_;right;rename_i p4 H4 z4;refine k8 (n:=2) (c:=true) (lT (xs:=[v6 (Str.ofString "times"),v4 m]) (z4.get .k1) z4.at (λv hv=>by
    simp only[mo,not_mem_nil,or_false]at hv;rcases hv with rfl|rfl<;>rfl)) (by decide) ((z4.pull .k1).ne) ?_
   left;refine aL rfl ?_;have z5:Sep (G++F) H4:=z4.drop.drop.drop.drop;have ed:=fz m3 z5;right;refine⟨_,11,_,_,_,rfl,ed,rfl,rfl,?_⟩;right;delta cX;right;refine ak ed rfl rfl rfl ?_;right;refine ak ed rfl rfl rfl ?_;right;refine aU z5 (fz m4 z5) λp1 H5 z6=>?_
   right;rename_i p2 H6 z7;refine aB (g9 (G:=_::_::G) m1 z7) rfl ?_;right;exact ih n rfl (G:=pt p2 _::pt p1 _::G) nofun ok.2 .k1 a (.t (.t (ah pl'))) a' z7 λH8 z8=>q _ z8.drop.drop
 |whn o b c=>
  cases n with
  |zero=>exact hi.elim
  |succ n=>
   obtain⟨t,l1,us1,l2,us2,rfl,m1,⟨m2,a1⟩,m2',a2⟩:=hj;obtain⟨d,x,l3,vs1,l4,vs2,rfl,m3,⟨m4,b1⟩,m5,b2⟩:=hi;obtain⟨Δ1,pl1⟩:=av m2;obtain⟨Δ2,pl2⟩:=av m2';have e:=g9 m1 z;have ed:=fz m3 z;right;refine aB e rfl ?_;right;refine aB e rfl ?_;right;refine aB e rfl ?_;right;refine cE ed rfl rfl ?_;right;refine⟨_,12,_,_,_,rfl,ed,rfl,rfl,?_⟩;right;delta cb;right;refine ak ed rfl rfl rfl ?_;right;refine ak ed rfl rfl rfl ?_;right;refine aU z (fz m4 z) λp1 H1 z1=>?_
   right;refine ak (fz (G:=_::G) m3 z1) rfl rfl rfl ?_;right;refine aU z1 (fz (G:=_::G) m5 z1) λp0 H1 z1=>?_
   right;rename_i p2 H2 z2;refine Dg z2 z2.at (λh=>absurd (show 2=4 from h.2) (by decide)) λp3 H3 z3=>?_
   right;refine aB (g9 (G:=_::_::_::_::G) m1 z3) rfl ?_;right;rename_i p4 H4 z4;refine k8 (n:=2) (c:=true) (lT (xs:=[v6 (Str.ofString "when"),v4 o]) (z4.get .k1) z4.at (λv hv=>by
    simp only[mo,not_mem_nil,or_false]at hv;rcases hv with rfl|rfl<;>rfl)) (by decide) ((z4.pull .k1).ne) ?_
   left;refine aL rfl ?_;have z5:Sep (G++F) H4:=z4.drop.drop.drop.drop.drop;clear z1 z2 z3 z4;have ed:=fz m3 z5;right;refine⟨_,12,_,_,_,rfl,ed,rfl,rfl,?_⟩;right;delta cb;right;refine ak ed rfl rfl rfl ?_;right;refine ak ed rfl rfl rfl ?_;right;refine aU z5 (fz m4 z5) λp1 H5 z6=>?_
   right;refine ak (fz (G:=_::G) m3 z6) rfl rfl rfl ?_;right;refine aU z6 (fz (G:=_::G) m5 z6) λp0 H5 z6=>?_
   right;rename_i p2 H6 z7;refine aB (g9 (G:=_::_::_::G) m1 z7) rfl ?_;right;refine ih n rfl (G:=pt p2 _::pt p0 _::pt p1 _::G) nofun ok.2.1 .k2 b1 (.t (.t (.t (ah pl1)))) a1 z7 λH8 z8=>?_
   have z5:Sep (G++F) H8:=z8.drop.drop.drop;clear z6 z7 z8;have ed:=fz m3 z5;right;refine⟨_,12,_,_,_,rfl,ed,rfl,rfl,?_⟩;right;delta cb;right;refine ak ed rfl rfl rfl ?_;right;refine ak ed rfl rfl rfl ?_;right;refine aU z5 (fz m4 z5) λp1 H5 z6=>?_
   right;refine ak (fz (G:=_::G) m3 z6) rfl rfl rfl ?_;right;refine aU z6 (fz (G:=_::G) m5 z6) λp0 H5 z6=>?_
   right;rename_i p2 H6 z7;refine aB (g9 (G:=_::_::_::G) m1 z7) rfl ?_;right;exact ih n rfl (G:=pt p2 _::pt p0 _::pt p1 _::G) nofun ok.2.2 .k1 b2 (.t (.t (.t (ah pl2)))) a2 z7 λH8 z8=>q _ z8.drop.drop.drop
def Au (hi:Ax R n):LsOk R n:=by
 intro k F G Δ Δ' l l' vs us b H Q E hk ok pl a pl' a' z q;delta j8;have e1:=z.get pl;have e2:=z.get pl';have h1:=a.1;have h2:=a'.1;have hl:=ok.1;right;refine j6 (FJ e1) rfl ?_;right;refine c7 e1 ?_;right;refine c7 e2 ?_;right;refine aY (by show((vs.length:Int) ==(us.length:Int))=true;rw[h1,h2];exact beq_self_eq_true _) ?_;right;refine c7 e2 ?_;right;rw[ss];refine o5 (n:=us.length) nofun (λD ys H=>ys=sK ys.length (.bl true)/\Sep (pt D (wl ys)::(G++F)) H) (λD hD=>⟨rfl,z.new (o:=wl []) hD⟩) (λD ys H hy hI=>?_) (λD ys H hly hI=>?_)
 .obtain⟨e,z1⟩:=hI;have ev:vs[ys.length]? =some (vs[ys.length]'nofun):=lv _;generalize vs[ys.length]'nofun=v at ev;obtain⟨i,ei,ii⟩:=a.get ev;have eu:us[ys.length]? =some (us[ys.length]'nofun):=lv _;generalize us[ys.length]'nofun=u at eu;obtain⟨i',ei',jj⟩:=a'.get eu;rw[ei]at ei';cases ei';right;refine eX (z1.get (.t pl)) (mN ev) ?_;right;refine eX (z1.get (.t pl')) (mN eu) ?_;right;refine hi (k:=k-1) (G:=pt D _::G) nofun (ok.2 i (dl ei)) ii jj z1 λH2 z2=>?_
  refine oY.mk z2.at nofun ⟨?_,z2.set rfl⟩;rw[db,gt,List.replicate_succ',<-e]
 .obtain⟨e,z1⟩:=hI;left;refine o8 (bs:=sK ys.length true) (K:=R.K) rfl (by rw[z1.at,e,List.map_replicate,List.length_replicate]) ?_;rw[show(sK ys.length true).all id=true by rw[all_eq_true];intro x hx;rw[List.eq_of_mem_replicate hx];rfl];exact q _ z1.drop
def kJ (ro:Ro K R):∀ n,LsOk R n
 |0=>Au (wa ro λm e=>absurd e nofun)
 |n+1=>Au (wa ro λm e=>by cases e;exact kJ ro n)
end
def Av (r:Rw):∃ w p,r.zs=w::p/\w≠qK/\w≠j3/\w≠dq/\w≠aR:=by
 cases r with
 |lg w=>cases w<;>exact⟨_,_,rfl,by decide+kernel,by decide+kernel,by decide+kernel,by decide+kernel⟩
 |sp s=>cases s<;>exact⟨_,_,rfl,by decide+kernel,by decide+kernel,by decide+kernel,by decide+kernel⟩
 |hop n o=>cases o<;>exact⟨_,_,rfl,by decide+kernel,by decide+kernel,by decide+kernel,by decide+kernel⟩
def AA {i:Itm}(h:a9 n i):∃ w p,ao n i=w::p/\w≠aR:=by
 cases i with
 |row r=>
  obtain⟨w,p,e,_,_,_,h4⟩:=Av r;cases n<;>exact⟨w,p,e,h4⟩
 |dO w=>cases n<;>exact⟨_,_,rfl,by decide+kernel⟩
 |tms m b=>cases n with
  |zero=>exact h.elim
  |succ n=>exact⟨_,_,rfl,by decide+kernel⟩
 |whn o b c=>cases n with
  |zero=>exact h.elim
  |succ n=>exact⟨_,_,rfl,by decide+kernel⟩
def BR (h:i.natAbs<=1000000000):vq (nw i)=some i:=by
 have hv:=B7 h;have hw:wK (nw i)=true:=by
  have one:∀ (m:Nat),m<10 ^ 10->∀ l:List Nat,(l=[48] ↔ (fk m=[48]/\l=fk m))\/¬ l=[48]->1<=(fk m).length/\(fk m).length<=10/\(fk m).all qD=true:=λm hm l _=>by
   refine⟨length_pos_iff.mpr (lG m),iH 9 m hm,?_⟩;rw[all_eq_true];intro c hc;have:=d8 m c hc;unfold qD;simp
   omega
  cases i with
  |ofNat m=>
   have e:(nw (Int.ofNat m)).cps.toList=fk m:=lN m;obtain⟨h1,h2,h3⟩:=one m (by simp at h;omega) [] (.inr (λz=>nomatch z));have ef:kL (fk m)=fk m:=by
    obtain⟨c,r,ec,hc⟩:=dS (n:=m);rw[ec];unfold kL
    split
    .rename_i hh;have:=d8 m c (by rw[ec];exact lw);have:=(List.cons.inj hh).1
     omega
    .rfl
   unfold wK wJ;rw[e,ef,decide_eq_true h1,decide_eq_true h2,h3]
   by_cases h0:m=0
   .subst h0;rw[eK (by decide)]
    rfl
   .have hh:((fk m)[0]? ==some 48)=false:=by
     obtain⟨c,r,ec,_⟩:=dS (n:=m);have:=j7 nofun c r ec;rw[ec];exact beq_eq_false_iff_ne.mpr λz=>this (Option.some.inj z)
    rw[hh];simp
  |negSucc m=>
   have e:=kZ m;obtain⟨h1,h2,h3⟩:=one (m+1) (by simp[Int.natAbs]at h;omega) [] (.inr (λz=>nomatch z));unfold wK wJ;rw[e,show kL (45::fk (m+1))=fk (m+1) from rfl,decide_eq_true h1,decide_eq_true h2,h3];have hh:((fk (m+1))[0]? ==some 48)=false:=by
    obtain⟨c,r,ec,_⟩:=dS (n:=m+1);have:=j7 nofun c r ec;rw[ec];exact beq_eq_false_iff_ne.mpr λz=>this (Option.some.inj z)
   rw[hh];simp
 have e2:=(qx hw).1;rw[hv]at e2;unfold vq;rw[if_pos hw];exact e2.symm
def x8 (b:Bn):mL b.nm=some b:=by
 unfold mL;cases b<;>(repeat(first|rw[if_pos (by decide+kernel)]|rw[if_neg (by decide+kernel)]))
def Cz {w:Str}(h:Nm w):pq w=true:=by
 unfold pq;rw[decide_eq_true h.1.1,decide_eq_true h.1.2];show w.cps.toList.all isA=true;rw[all_eq_true];intro c hc;have:=h.2 c hc;unfold isA;simp
 omega
section
variable {ws post:List Str}{n:Nat}{x c:Str}
def aq (h:ws.drop n=x::r):ws[n]? =some x:=by
 have:=congrArg (λl=>l[0]?) h;simpa using this
def aj (h:ws.drop n=x::r):ws.drop (n+1)=r:=by
 have:=congrArg (λl=>l.drop 1) h;simpa using this
def ai {w:Str}(e:ws[n]? =some x):isAt ws n w=decide (x=w):=by
 unfold isAt;rw[e];simp
def cT (e:ws[n]? =some (nw i))(h1:lo<=i)(h2:i<=hi)(h9:i.natAbs<=1000000000):cW ws n lo hi=some i:=qz (by unfold numAt;rw[e];exact BR h9) h1 h2
def d6 {b:Bn}(e:ws[n]? =some b.nm):i7 ws n=some b:=by unfold i7;rw[e];exact x8 b
def CF {r:Rw}(ok:r.ok)(hc:c=bq\/c=aR)(h:ws.drop n=r.zs++c::post):tG ws n=.ok r (n+r.zs.length):=by
 cases r with
 |lg w=>
  have e:=aq (x:=w.s) h;unfold tG xu;simp only[ai e];cases w<;>(repeat(first|rw[if_pos (by decide+kernel)]|rw[if_neg (by decide+kernel)]))<;>rfl
 |sp s=>
  cases s with
  |set b i=>
   have e:=aq (x:="set") h;have h1:=aj h;have h2:=aj h1;have ok: -1000000000<=i/\i<=1000000000:=ok;unfold tG rq;simp only[ai e];rw[if_pos (by decide+kernel),d6 (aq h1)];show(match cW ws (n+1+1) (-1000000000) 1000000000 with|none=>Rd.no (n+1+1)|some i=>Rd.ok (Rw.sp (Sp.set b i)) (n+1+2))=_;rw[cT (aq (x:=nw i) h2) ok.1 ok.2 nofun]
   rfl
  |add b i=>
   have e:=aq (x:="add") h;have h1:=aj h;have h2:=aj h1;have ok: -1000000000<=i/\i<=1000000000:=ok;unfold tG rq;simp only[ai e];rw[if_neg (by decide+kernel),if_pos (by decide+kernel),d6 (aq h1)];show(match cW ws (n+1+1) (-1000000000) 1000000000 with|none=>Rd.no (n+1+1)|some i=>Rd.ok (Rw.sp (Sp.add b i)) (n+1+2))=_;rw[cT (aq (x:=nw i) h2) ok.1 ok.2 nofun]
   rfl
  |take b d=>
   have e:=aq (x:="take") h;have h1:=aj h;have h2:=aj h1;unfold tG AB;simp only[ai e];rw[if_neg (by decide+kernel),if_neg (by decide+kernel),if_pos (by decide+kernel),d6 (aq h1)];show(match i7 ws (n+1+1) with|none=>Rd.no (n+1+1)|some c=>Rd.ok (Rw.sp (Sp.take b c)) (n+1+2))=_;rw[d6 (aq h2)]
   rfl
  |read b=>
   have e:=aq (x:="read") h;have h1:=aj h;unfold tG rA;simp only[ai e];rw[if_neg (by decide+kernel),if_neg (by decide+kernel),if_neg (by decide+kernel),if_pos (by decide+kernel),d6 (aq h1)]
   rfl
  |write b=>
   have e:=aq (x:="write") h;have h1:=aj h;unfold tG rA;simp only[ai e];rw[if_neg (by decide+kernel),if_neg (by decide+kernel),if_neg (by decide+kernel),if_neg (by decide+kernel),if_pos (by decide+kernel),d6 (aq h1)]
   rfl
 |hop m o=>
  have ok:(0<=m/\m<=24)/\Bs o:=ok;have e:ws[n]? =some "hop":=by cases o<;>exact aq h
  have h1:∃ r,ws.drop (n+1)=nw m::r:=by cases o<;>exact⟨_,aj h⟩
  obtain⟨r1,h1⟩:=h1;unfold tG qm;simp only[ai e];rw[if_neg (by decide+kernel),if_neg (by decide+kernel),if_neg (by decide+kernel),if_neg (by decide+kernel),if_neg (by decide+kernel),if_pos (by decide+kernel),cT (aq h1) ok.1.1 ok.1.2 nofun];cases o with
  |none=>
   have h2:=aj (aj (n:=n) h);have e2:isAt ws (n+1+1) "if"=false:=by
    rw[ai (aq h2)];rcases hc with rfl|rfl<;>decide+kernel
   show(if isAt ws (n+1+1) "if"=true then _ else Rd.ok (Rw.hop m none) (n+1+1))=_;rw[e2,if_neg Bool.false_ne_true]
   rfl
  |some i=>
   have ho:i=0\/i=1:=ok.2;have h2:=aj (aj (n:=n) h);have h3:=aj h2;have e2:isAt ws (n+1+1) "if"=true:=by
    rw[ai (aq h2)]
    decide+kernel
   show(if isAt ws (n+1+1) "if"=true then(match cW ws (n+1+2) 0 1 with|none=>Rd.no (n+1+2)|some o=>Rd.ok (Rw.hop m (some o)) (n+1+3)) else _)=_;rw[e2,if_pos rfl,cT (aq (x:=nw i) h3) nofun nofun nofun]
   rfl
abbrev Fv (ws:List Str)(L:Nat):Prop:=∀ {i:Itm}{n:Nat}{c:Str}{post:List Str},a9 L i->(c=bq\/c=aR)->ws.drop n=ao L i++c::post->fN (c4 ws L) ws n=.ok i (n+(ao L i).length)
abbrev Ga (ws:List Str)(L:Nat):Prop:=∀ {b:List Itm}{n:Nat}{post:List Str},iQ L b->ws.drop n=aQ L b++post->c4 ws (L+1) n=.ok b (n+(aQ L b).length)
def fB {a b:List Str}(h:ws.drop n=a++b):ws.drop (n+a.length)=b:=by
 rw[<-List.drop_drop,h,List.drop_left]
def qX {L:Nat}(hi:Fv ws L):∀ {rest:List Itm}{k m:Nat}{acc:List Itm},rest.length<=k->(∀ i ∈ rest,a9 L i)->ws.drop m=((rest.map (ao L)).map λy=>bq::y).flatten++aR::post->gx (fN (c4 ws L) ws) ws k m acc=.ok (acc++rest) (m+(((rest.map (ao L)).map λy=>bq::y).flatten).length+1)
 | [],k,m,acc,_,_,h=>by
  have e:=aq (x:=aR) h;have e1:isAt ws m aR=true:=by rw[ai e];decide+kernel
  have e2:isAt ws m bq=false:=by rw[ai e];decide+kernel
  rw[append_nil];cases k with
  |zero=>show(if isAt ws m aR=true then Rd.ok acc (m+1) else _)=_;rw[e1];rfl
  |succ k=>show(if isAt ws m bq=true then _ else if isAt ws m aR=true then Rd.ok acc (m+1) else _)=_;rw[e2,e1];rfl
 |i::rest,k,m,acc,hk,ok,h=>by
  cases k with
  |zero=>exact absurd hk (by simp)
  |succ k=>
   have h:ws.drop m=bq::(ao L i++(((rest.map (ao L)).map λy=>bq::y).flatten++aR::post)):=by rw[h];simp
   have e1:isAt ws m bq=true:=by rw[ai (aq h)];decide+kernel
   have h1:=aj h;have hc:∃ c p,((rest.map (ao L)).map λy=>bq::y).flatten++aR::post=c::p/\(c=bq\/c=aR):=by
    cases rest with
    |nil=>exact⟨aR,post,rfl,.inr rfl⟩
    |cons j r=>exact⟨bq,_,rfl,.inl rfl⟩
   obtain⟨c,p,ec,hc⟩:=hc;have h2:=hi (ok i lw) hc (by rw[h1,ec]);have h3:=fB h1;show(if isAt ws m bq=true then(match fN (c4 ws L) ws (m+1) with| .no e=>Rd.no e| .ok i e=>gx (fN (c4 ws L) ws) ws k e (acc++[i])) else _)=_;rw[e1,if_pos rfl,h2];show gx (fN (c4 ws L) ws) ws k (m+1+(ao L i).length) (acc++[i])=_;rw[qX hi (by simpa using hk) (λj hj=>ok j (f8 _ hj)) h3,li];simp
   omega
def Dh {L:Nat}(hi:Fv ws L):Ga ws L:=by
 intro b n post ok h;have h:ws.drop n=bR::(aE (b.map (ao L))++([aR]++post)):=by rw[h];show bR::((aE _++[aR])++post)=_;simp
 have e1:isAt ws n bR=true:=by rw[ai (aq h)];decide+kernel
 have h1:=aj h;show pf (fN (c4 ws L) ws) ws n=_;unfold pf;rw[e1,if_pos rfl];cases b with
 |nil=>
  have e2:isAt ws (n+1) aR=true:=by rw[ai (aq (x:=aR) h1)];decide+kernel
  rw[e2]
  rfl
 |cons i rest=>
  have hl:(i::rest).length<=24:=ok.1;have h1:ws.drop (n+1)=ao L i++(((rest.map (ao L)).map λy=>bq::y).flatten++aR::post):=by
   rw[h1];show(ao L i++((rest.map (ao L)).map λy=>bq::y).flatten)++([aR]++post)=_;simp
  have hc:∃ c p,((rest.map (ao L)).map λy=>bq::y).flatten++aR::post=c::p/\(c=bq\/c=aR):=by
   cases rest with
   |nil=>exact⟨aR,post,rfl,.inr rfl⟩
   |cons j r=>exact⟨bq,_,rfl,.inl rfl⟩
  obtain⟨c,p,ec,hc⟩:=hc;have h2:=hi (ok.2 i lw) hc (by rw[h1,ec]);have h3:=fB h1;have e2:isAt ws (n+1) aR=false:=by
   obtain⟨w,r,ew,hw⟩:=AA (ok.2 i lw);rw[ew]at h1;rw[ai (aq h1)];exact decide_eq_false hw
  rw[e2,if_neg Bool.false_ne_true];unfold qQ;rw[h2];show gx (fN (c4 ws L) ws) ws 23 (n+1+(ao L i).length) [i]=_;rw[qX hi (by simp at hl;omega) (λj hj=>ok.2 j (f8 _ hj)) h3];show Rd.ok (i::rest) _=Rd.ok (i::rest) (n+(bR::((ao L i++((rest.map (ao L)).map λy=>bq::y).flatten)++[aR])).length);simp only[length_cons,db,length_nil]
  congr 1
  omega
def Es {L:Nat}(ih:∀ m,L=m+1->Ga ws m):Fv ws L:=by
 intro i n c post ok hc h;cases i with
 |row r=>
  have ok':r.ok:=by cases L<;>exact ok
  have h:ws.drop n=r.zs++c::post:=by cases L<;>exact h
  have e:(ao L (.row r))=r.zs:=by cases L<;>rfl
  obtain⟨w,p,ew,h1,h2,h3,_⟩:=Av r;have e0:=aq (x:=w) (r:=p++c::post) (by rw[h,ew];rfl);unfold fN;simp only[ai e0];rw[if_neg (by simpa using h1),if_neg (by simpa using h2),if_neg (by simpa using h3),CF ok' hc h,e]
  rfl
 |dO w=>
  have hn:Nm w:=by cases L<;>exact ok
  have h:ws.drop n=qK::w::c::post:=by cases L<;>exact h
  have e:(ao L (.dO w))=[qK,w]:=by cases L<;>rfl
  have h1:=aj h;unfold fN BK C1;simp only[ai (aq h)];rw[if_pos (by decide+kernel),aq h1,e];show(match (if pq w=true then some w else none) with|some w=>Rd.ok (Itm.dO w) (n+1+1)|none=>Rd.no (n+1))=_;rw[if_pos (Cz hn)]
  rfl
 |tms m b=>
  cases L with
  |zero=>exact ok.elim
  |succ L=>
   have h:ws.drop n=j3::nw m::(aQ L b++c::post):=by rw[h];rfl
   have h1:=aj h;have h2:=aj h1;have ok1:=ok.1;have h3:=ih L rfl ok.2 h2;unfold fN F5;simp only[ai (aq h)];rw[if_neg (by decide+kernel),if_pos (by decide+kernel),cT (aq h1) nofun nofun nofun];show(match c4 ws (L+1) (n+1+1) with| .no e=>Rd.no e| .ok b e=>Rd.ok (Itm.tms m b) e)=_;rw[h3];show Rd.ok (Itm.tms m b) _=Rd.ok (Itm.tms m b) (n+(j3::nw m::aQ L b).length);simp only[length_cons]
   congr 1
   omega
 |whn o b d=>
  cases L with
  |zero=>exact ok.elim
  |succ L=>
   have h:ws.drop n=dq::nw o::(aQ L b++(iq (d.map (ao L))++c::post)):=by rw[h];show(dq::nw o::(aQ L b++iq _))++_=_;simp
   have h1:=aj h;have h2:=aj h1;have ok1:=ok.1;have h3:=ih L rfl ok.2.1 h2;have h4:=fB h2;unfold fN EV;simp only[ai (aq h)];rw[if_neg (by decide+kernel),if_neg (by decide+kernel),if_pos (by decide+kernel),cT (aq h1) nofun nofun nofun];show(match c4 ws (L+1) (n+1+1) with| .no e=>Rd.no e| .ok b e=>kH (c4 ws (L+1)) ws o b e)=_;rw[h3];show kH (c4 ws (L+1)) ws o b (n+1+1+(aQ L b).length)=Rd.ok (Itm.whn o b d) (n+(dq::nw o::(aQ L b++iq (d.map (ao L)))).length);unfold kH
   by_cases g:d=[]
   .subst g;have h4:ws.drop (n+1+1+(aQ L b).length)=c::post:=h4;have e2:isAt ws (n+1+1+(aQ L b).length) jx=false:=by
     rw[ai (aq h4)];rcases hc with rfl|rfl<;>decide+kernel
    rw[e2,if_neg Bool.false_ne_true];show Rd.ok (Itm.whn o b []) _=Rd.ok (Itm.whn o b []) (n+(dq::nw o::(aQ L b++[])).length);simp only[length_cons,append_nil]
    congr 1
    omega
   .have e0:iq (d.map (ao L))=jx::aQ L d:=by unfold iq;rw[cr,if_neg (by simpa using g)]
    rw[e0]at h4⊢;have e2:isAt ws (n+1+1+(aQ L b).length) jx=true:=by rw[ai (aq (x:=jx) h4)];decide+kernel
    have h5:=ih L rfl ok.2.2 (aj (x:=jx) h4);rw[e2,if_pos rfl,h5];show Rd.ok (Itm.whn o b d) _=_;simp only[length_cons,db]
    congr 1
    omega
def kW:∀ L,Ga ws L
 |0=>Dh (Es λm e=>absurd e nofun)
 |L+1=>Dh (Es λm e=>by cases e;exact kW L)
end
abbrev cR:Nat->Int
 |0=>1000
 |n+1=>100*cR n
abbrev cst:Nat->Int
 |0=>15
 |n+1=>15+2*cR n
def kP:∀ n,1000<=cR n
 |0=>by show(1000:Int)<=1000;omega
 |n+1=>by have:=kP n;show 1000<=100*cR n;omega
def qL (n:Nat):15<=cst n/\1+30*cst n<=cR n:=by
 cases n with
 |zero=>exact⟨by show(15:Int)<=15;omega,by show(1:Int)+30*15<=1000;omega⟩
 |succ n=>have:=kP n;exact⟨by show 15<=15+2*cR n;omega,by show 1+30*(15+2*cR n)<=100*cR n;omega⟩
def pW (r:Rw):∀ w ∈ r.zs,32 ∉ w.cps.toList:=by
 have kw:∀ b:Bn,32 ∉ b.nm.cps.toList:=λb=>by cases b<;>decide+kernel
 have ks:∀ {s:Str},decide (32 ∉ s.cps.toList)=true->32 ∉ s.cps.toList:=λh=>of_decide_eq_true h
 intro w hw;cases r with
 |lg x=>
  rw[mem_singleton.mp hw];cases x<;>exact ks (by decide+kernel)
 |sp s=>
  cases s with
  |set b i=>
   have hw:w ∈ [(("set":Str)),b.nm,nw i]:=hw;simp only[mo,not_mem_nil,or_false]at hw;rcases hw with rfl|rfl|rfl
   .exact ks (by decide+kernel)
   .exact kw b
   .exact cj
  |add b i=>
   have hw:w ∈ [(("add":Str)),b.nm,nw i]:=hw;simp only[mo,not_mem_nil,or_false]at hw;rcases hw with rfl|rfl|rfl
   .exact ks (by decide+kernel)
   .exact kw b
   .exact cj
  |take b c=>
   have hw:w ∈ [(("take":Str)),b.nm,c.nm]:=hw;simp only[mo,not_mem_nil,or_false]at hw;rcases hw with rfl|rfl|rfl
   .exact ks (by decide+kernel)
   .exact kw b
   .exact kw c
  |read b=>
   have hw:w ∈ [(("read":Str)),b.nm]:=hw;simp only[mo,not_mem_nil,or_false]at hw;rcases hw with rfl|rfl
   .exact ks (by decide+kernel)
   .exact kw b
  |write b=>
   have hw:w ∈ [(("write":Str)),b.nm]:=hw;simp only[mo,not_mem_nil,or_false]at hw;rcases hw with rfl|rfl
   .exact ks (by decide+kernel)
   .exact kw b
 |hop n o=>
  cases o with
  |none=>
   have hw:w ∈ [(("hop":Str)),nw n]:=hw;simp only[mo,not_mem_nil,or_false]at hw;rcases hw with rfl|rfl
   .exact ks (by decide+kernel)
   .exact cj
  |some i=>
   have hw:w ∈ [(("hop":Str)),nw n,("if":Str),nw i]:=hw;simp only[mo,not_mem_nil,or_false]at hw;rcases hw with rfl|rfl|rfl|rfl
   .exact ks (by decide+kernel)
   .exact cj
   .exact ks (by decide+kernel)
   .exact cj
def fW (h:∀ x ∈ l,∀ w ∈ x,32 ∉ w.cps.toList):∀ w ∈ eg l,32 ∉ w.cps.toList:=by
 have h1:32 ∉ (bR).cps.toList:=by decide+kernel
 have h2:32 ∉ (aR).cps.toList:=by decide+kernel
 have h3:32 ∉ (bq).cps.toList:=by decide+kernel
 intro w hw;rcases mo.mp hw with rfl|hw
 .exact h1
 rcases mem_append.mp hw with hw|hw
 .cases l with
  |nil=>cases hw
  |cons a r=>
   have hw:w ∈ a++(r.map λy=>bq::y).flatten:=hw;rcases mem_append.mp hw with hw|hw
   .exact h a lw w hw
   .obtain⟨y,hy,hwy⟩:=List.mem_flatten.mp hw;obtain⟨x,hx,rfl⟩:=List.mem_map.mp hy;rcases mo.mp hwy with rfl|hwy
    .exact h3
    .exact h x (f8 _ hx) w hwy
 .rw[mem_singleton.mp hw];exact h2
def rf:∀ {n:Nat}{i:Itm},a9 n i->∀ w ∈ ao n i,32 ∉ w.cps.toList:=by
 intro n
 induction n with
 |zero=>
  intro i ok w hw;cases i with
  |row r=>exact pW r w hw
  |dO x=>
   rcases mo.mp hw with rfl|hw
   .decide+kernel
   .rw[mem_singleton.mp hw];intro h;have ok:Nm x:=ok;have:=ok.2 32 h
    omega
  |tms m b=>exact ok.elim
  |whn o b c=>exact ok.elim
 |succ n ih=>
  intro i ok w hw;have hb:∀ b:List Itm,(∀ i ∈ b,a9 n i)->∀ x ∈ b.map (ao n),∀ w ∈ x,32 ∉ w.cps.toList:=λb h x hx w hw=>by
   obtain⟨i,hi,rfl⟩:=List.mem_map.mp hx;exact ih (h i hi) w hw
  cases i with
  |row r=>exact pW r w hw
  |dO x=>
   rcases mo.mp hw with rfl|hw
   .decide+kernel
   .rw[mem_singleton.mp hw];intro h;have ok:Nm x:=ok;have:=ok.2 32 h
    omega
  |tms m b=>
   rcases mo.mp hw with rfl|hw
   .decide+kernel
   rcases mo.mp hw with rfl|hw
   .exact cj
   .exact fW (hb b ok.2.2) w hw
  |whn o b c=>
   rcases mo.mp hw with rfl|hw
   .decide+kernel
   rcases mo.mp hw with rfl|hw
   .exact cj
   rcases mem_append.mp hw with hw|hw
   .exact fW (hb b ok.2.1.2) w hw
   .unfold iq at hw
    split at hw
    .cases hw
    .rcases mo.mp hw with rfl|hw
     .decide+kernel
     .exact fW (hb c ok.2.2.2) w hw
def jv (ok:iQ 3 b):Txt.split (js 3 b) bQ=aQ 3 b:=ji eL (fW λx hx w hw=>by
 obtain⟨i,hi,rfl⟩:=List.mem_map.mp hx;exact rf (ok.2 i hi) w hw)
def pD (ok:iQ 3 b):CU (aQ 3 b)=.ok b (aQ 3 b).length:=by
 have h:=kW (ws:=aQ 3 b) 3 (b:=b) (n:=0) (post:=[]) ok (by simp);unfold CU;rw[h,Nat.zero_add];show(if(aQ 3 b).length=(aQ 3 b).length then Rd.ok b _ else _)=_;rw[if_pos rfl]
def lJ:ax (aE (l++[y]))<=ax (aE l)+ax y+2:=by
 rw[gi,az]
 split
 .omega
 .rw[aa,show(bq).length=1 by decide+kernel];omega
def ph {r:Rw}(ok:r.ok):ax r.zs<=50:=by
 have nm:∀ b:Bn,b.nm.length<=5:=λb=>by cases b<;>decide+kernel
 have nl:∀ {i:Int},i.natAbs<=1000000000->(nw i).length<=11:=λh=>(ff h).1
 have t0:ax []=0:=rfl;cases r with
 |lg w=>cases w<;>decide+kernel
 |sp s=>
  cases s with
  |set b i=>
   have ok: -1000000000<=i/\i<=1000000000:=ok;have h1:=nm b;have h2:=nl (i:=i) nofun;show ax [("set":Str),b.nm,nw i]<=50;rw[aa,aa,aa,show("set":Str).length=3 by decide+kernel,t0]
   omega
  |add b i=>
   have ok: -1000000000<=i/\i<=1000000000:=ok;have h1:=nm b;have h2:=nl (i:=i) nofun;show ax [("add":Str),b.nm,nw i]<=50;rw[aa,aa,aa,show("add":Str).length=3 by decide+kernel,t0]
   omega
  |take b c=>
   have h1:=nm b;have h2:=nm c;show ax [("take":Str),b.nm,c.nm]<=50;rw[aa,aa,aa,show("take":Str).length=4 by decide+kernel,t0]
   omega
  |read b=>
   have h1:=nm b;show ax [("read":Str),b.nm]<=50;rw[aa,aa,show("read":Str).length=4 by decide+kernel,t0]
   omega
  |write b=>
   have h1:=nm b;show ax [("write":Str),b.nm]<=50;rw[aa,aa,show("write":Str).length=5 by decide+kernel,t0]
   omega
 |hop n o=>
  have ok:(0<=n/\n<=24)/\Bs o:=ok;have h1:=nl (i:=n) nofun;cases o with
  |none=>
   show ax [("hop":Str),nw n]<=50;rw[aa,aa,show("hop":Str).length=3 by decide+kernel,t0]
   omega
  |some i=>
   have ho:i=0\/i=1:=ok.2;have h2:=nl (i:=i) nofun;show ax [("hop":Str),nw n,("if":Str),nw i]<=50;rw[aa,aa,aa,aa,show("hop":Str).length=3 by decide+kernel,show("if":Str).length=2 by decide+kernel,t0]
   omega
def xf:∀ v ∈ [v6 "a",v6 "do",v6 "and",v6 "else",v6 "when",v6 "times",v6 "copy",v6 "set",v6 "if",v6 "zzzzzzzz",v6 "hop",v6 "here"],∃ w:Str,v=v6 w/\Nm w:=by
 intro v hv;simp only[mo,not_mem_nil,or_false]at hv;rcases hv with rfl|rfl|rfl|rfl|rfl|rfl|rfl|rfl|rfl|rfl|rfl|rfl<;>exact⟨_,rfl,uu (by decide+kernel)⟩
def DY {zs:List Str}:(Str.join Str.empty zs).cps.toList=(zs.map λz=>z.cps.toList).flatten:=by
 induction zs with
 |nil=>rfl
 |cons x r ih=>
  cases r with
  |nil=>show x.cps.toList=_;simp
  |cons y r=>
   rw[join_cons,ih];simp[Str.empty]
def yS (cs:List Nat):(Txt.join (Str.ofString "") (cs.map λc=>(⟨#[c]⟩:Str))).cps.toList=cs:=by
 have e:Txt.join (Str.ofString "") (cs.map λc=>(⟨#[c]⟩:Str))=Str.join Str.empty (cs.map λc=>(⟨#[c]⟩:Str)):=(StrLaws.glued_eq_join _ _).trans (by rw[show(Str.ofString "")=Str.empty by decide+kernel]);rw[e,DY]
 induction cs with
 |nil=>rfl
 |cons c r ih=>
  have ih:=ih ((StrLaws.glued_eq_join _ _).trans (by rw[show(Str.ofString "")=Str.empty by decide+kernel]));rw[map_cons,map_cons,flatten_cons,ih]
  rfl
section
variable {h:Addr}{m:Int}
def yw (hk:2<=k)(s:Sep (hand h m::O) H)(hm:m<=1099510000000)(q:∀ w H',Nm w->Sep (hand h (m+10)::O) H'->Q (v6 w) H'):ae tab R k 64 [v0 h] H Q E:=by
 delta gU;walk_at "gd";rename_i p1 H1 z1 r1 H2 a0 a1 z2;refine bK (λg=>?_) (λg=>?_)
 .walk_at "gd";rename_i r2 H3 b0 b1 z3;obtain⟨v,ev,w,rfl,hw⟩:=mJ b0 (by simpa using b1) xf;refine eX (by grind) ev ?_;exact q w _ hw (ay (z3.sub (Γ':=hand h (m+1+1)::O) (.cons .e (.drop .refl))) nofun)
 .have z3:Sep (hand h (m+1)::O) H2:=z2.sub (.cons .e (.drop .refl));clear z1 z2 s;right;refine⟨_,rfl,?_⟩;walk_at "gd";rename_i r2 H3 b0 b1 z4;refine o5 (n:=(1+r2).toNat) nofun (λD ys H=>(∃ cs:List Nat,ys=(cs.map λc=>(⟨#[c]⟩:Str)).map v6/\∀ c ∈ cs,97<=c/\c<=122)/\Sep (pt D (wl ys)::hand h (m+2+(ys.length:Int))::O) H) (λD hD=>⟨⟨[],rfl,λc hc=>nomatch hc⟩,?_⟩) (λD ys H hy hI=>?_) (λD ys H hly hI=>?_)
  .exact((ay ((z4.new (o:=wl []) hD).pull .k1) (by simp;omega)).pull .k1)
  .obtain⟨⟨cs,rfl,hcs⟩,z5⟩:=hI;have z6:Sep (hand h (m+2+(cs.length:Int))::pt D (wl ((cs.map λc=>(⟨#[c]⟩:Str)).map v6))::O) H:=ay (z5.pull .k1) (by simp);rw[cr,cr]at hy;right;refine la nofun z6 nofun (by decide) (by decide) λd H6 d0 d1 z7=>?_
   have ec:iB ("abcdefghijklmnopqrstuvwxyz":Str).cps.toList d=some (97+d.toNat):=by
    rw[DG];rcases(by omega:d=0\/d=1\/d=2\/d=3\/d=4\/d=5\/d=6\/d=7\/d=8\/d=9\/d=10\/d=11\/d=12\/d=13\/d=14\/d=15\/d=16\/d=17\/d=18\/d=19\/d=20\/d=21\/d=22\/d=23\/d=24\/d=25) with rfl|rfl|rfl|rfl|rfl|rfl|rfl|rfl|rfl|rfl|rfl|rfl|rfl|rfl|rfl|rfl|rfl|rfl|rfl|rfl|rfl|rfl|rfl|rfl|rfl|rfl<;>rfl
   refine F8 (c:=97+d.toNat) (by decide+kernel) ec ?_;refine oY.mk (z7.get .k1) (by rw[cr,cr];omega) ⟨⟨cs++[97+d.toNat],by simp,λc hc=>?_⟩,?_⟩
   .rcases mem_append.mp hc with hc|hc
    .exact hcs c hc
    .rw[mem_singleton.mp hc];omega
   .have z8:=(z7.pull .k1).set (o':=wl ((cs.map λc=>(⟨#[c]⟩:Str)).map v6++[v6 ⟨#[97+d.toNat]⟩])) rfl;exact(ay (z8.pull .k1) (by simp;omega)).pull .k1
  .obtain⟨⟨cs,rfl,hcs⟩,z5⟩:=hI;rw[cr,cr]at hly;left;have one:∀ l:List Nat,((l.map λc=>(⟨#[c]⟩:Str)).map (·.length)).sum=l.length:=λl=>by
    induction l with
    |nil=>rfl
    |cons a r ih=>rw[map_cons,map_cons,sum_cons,ih,length_cons];show 1+r.length=_;omega
   refine iy (G:=⟨tab,R,ae tab R (k-1),true⟩) z5.at (by rw[one,cr];omega) (by decide+kernel) ?_;have e:=yS cs;generalize Txt.join (Str.ofString "") (cs.map λc=>(⟨#[c]⟩:Str))=w at e⊢;refine q w _ ⟨⟨by rw[dm,e];omega,by rw[dm,e];omega⟩,λc hc=>hcs c (by rw[e]at hc;exact hc)⟩ (ay z5.drop (by rw[cr,cr];omega))
end
local macro_rules| `(tactic|walk_at "sx")=>`(tactic|((with_reducible (first|refine' dx_h ?s ?p ?_|refine' dx_t ?s ?p ?_|refine' dx_l ?s ?p ?_|refine' dx_w ?s ?p ?_|refine' dx_s ?s ?p ?_|refine' dx_m ?s ?p ?_));(case s=>with_reducible assumption);(case p=>symm)))
local macro_rules| `(tactic|walk_at "sy")=>`(tactic|((with_reducible (first|refine' ds_h ?s ?p (λH hs=>?_)|refine' ds_t ?s ?p (λH hs=>?_)|refine' ds_l ?s ?p (λH hs=>?_)|refine' ds_w ?s ?p (λH hs=>?_)|refine' ds_s ?s ?p (λH hs=>?_)|refine' ds_m ?s ?p (λH hs=>?_)));(case s=>with_reducible assumption);(case p=>ac_rfl)))
local macro_rules| `(tactic|walk_at "wd")=>`(tactic|(walk_at "w";repeat(first|(walk_at "sx";walk_at "w")|(walk_at "sy";walk_at "w")|(walk_at "st";walk_at "w")|(refine bf_intC ?_;walk_at "w"))))
def CD (wd:Wd)(hk:1<=k)(z:Sep O H)(q:∀ d H',Sep (dd R d wd.cl::O) H'->Q (v0 d) H'):ae tab R k 62 [v6 wd.s] H Q E:=by
 delta gT;cases wd
 all_goals
  right
  repeat walk_at "sc"
  exact BE z (λx dx H1 z1=>q x H1 (Em z1))
def Eh {r:Int}(h0:0<=r)(h1:r<6):∃ wd:Wd,iB [v6 "copy",v6 "fill",v6 "seek",v6 "match",v6 "shift",v6 "turn"] r=some (v6 wd.s):=by
 have:r=0\/r=1\/r=2\/r=3\/r=4\/r=5:=by omega
 rcases this with rfl|rfl|rfl|rfl|rfl|rfl
 .exact⟨.copy,rfl⟩
 .exact⟨.fill,rfl⟩
 .exact⟨.seek,rfl⟩
 .exact⟨.mtch,rfl⟩
 .exact⟨.shift,rfl⟩
 .exact⟨.turn,rfl⟩
def CM {r:Int}(h0:0<=r)(h1:r<3):∃ o:Option Int,iB [wf,v4 0,v4 1] r=some (oV o)/\Bs o:=by
 rcases(by omega:r=0\/r=1\/r=2) with rfl|rfl|rfl
 .exact⟨none,rfl,True.intro⟩
 .exact⟨some 0,rfl,.inl rfl⟩
 .exact⟨some 1,rfl,.inr rfl⟩
abbrev qO (v:V):Prop:=∃ b:Bn,v=v6 b.nm
def qb {sz:Int}(hk:2<=k)(s:Sep (hand h m::O) H)(hm:m<=1099510000000)(h0:0<=sz)(h1:sz<=60)(q:∀ t r H',Rw.ok r->Sep (tu t r.tl::hand h (m+10)::O) H'->Q (v0 t) H'):ae tab R k 60 [v0 h,v4 sz] H Q E:=by
 delta gN;walk_at "gd";rename_i wy H1 wy0 wy1 hs1 p1 H2 hs2 r2 H3 r20 r21 hs3;obtain⟨b,e2⟩:=zF r20 r21;refine eX (by grind) e2 ?_;clear s hs1 hs2;right;refine bK (λg0=>?_) (λg0=>?_)
 .right;rename_i l4 H4 hs4;obtain⟨wd,e3⟩:=Eh wy0 g0;refine eX (by grind) e3 ?_;right;rename_i t H5 hs5;have z6:Sep (tu t (Rw.tl (.lg wd))::_) _:=hs5.toT;exact q t (.lg wd) _ True.intro ((ay (n:=m+10) (z6.pull (A:=hand h _) (by symm)) nofun).sub (by ac_nf))
 right;refine bK (λg1=>?_) (λg1=>?_)
 .walk_at "gd";rename_i l4 H4 hs4 r5 H5 r50 r51 hs5;obtain⟨v,e3,b3,rfl⟩:=mJ (P:=qO) (xs:=[v6 "here",v6 "there",v6 "left",v6 b.nm]) (r:=r5) r50 (by simpa using r51) (GW ⟨.h,rfl⟩ ⟨.t,rfl⟩ ⟨.l,rfl⟩ ⟨b,rfl⟩);refine eX (by grind) e3 ?_;walk_at "gd";rename_i r6 H6 r60 r61 hs6 r7 H7 r70 r71 hs7 r8 H8 r80 r81 hs8 r9 H9 r90 r91 hs9 l10 H10 hs10;obtain⟨v,e4,i,rfl,i0,i1⟩:=mJ (xs:=[v4 r7,v4 (r8-2),v4 (10 ^ Int.toNat 9-r9)]) (P:=inR (-1000000000) 1000000000) (r:=r6 / 3) nofun (by simp;omega) (Gv (.mk nofun nofun) (.mk nofun nofun) (.mk (by rw[x6];omega) (by rw[x6];omega)));refine eX (by grind) e4 ?_;right;rename_i t H11 hs11;have z6:Sep (tu t (Rw.tl (.sp (.set b3 i)))::_) _:=hs11.toT;exact q t (.sp (.set b3 i)) _ ⟨i0,i1⟩ ((ay (n:=m+10) (z6.pull (A:=hand h _) (by symm)) nofun).sub (by ac_nf))
 right;refine gQ (λg2=>?_) (λg2=>?_)
 .walk_at "gd";rename_i r6 H6 r60 r61 hs6 r7 H7 r70 r71 hs7 r8 H8 r80 r81 hs8 l10 H10 hs10;obtain⟨v,e4,i,rfl,i0,i1⟩:=mJ (xs:=[v4 (r7-3),v4 r8,v4 (-(10 ^ Int.toNat 9))]) (P:=inR (-1000000000) 1000000000) (r:=r6 / 3) nofun (by simp;omega) (Gv (.mk nofun nofun) (.mk nofun nofun) (.mk (by rw[x6];omega) (by rw[x6];omega)));refine eX (by grind) e4 ?_;right;rename_i t H11 hs11;have z6:Sep (tu t (Rw.tl (.sp (.add b i)))::_) _:=hs11.toT;exact q t (.sp (.add b i)) _ ⟨i0,i1⟩ ((ay (n:=m+10) (z6.pull (A:=hand h _) (by symm)) nofun).sub (by ac_nf))
 right;refine gQ (λg3=>?_) (λg3=>?_)
 .walk_at "gd";rename_i r6 H6 r60 r61 hs6;obtain⟨c,e3⟩:=zF r60 r61;refine eX (by grind) e3 ?_;right;rename_i t H11 hs11;have z6:Sep (tu t (Rw.tl (.sp (.take b c)))::_) _:=hs11.toT;exact q t (.sp (.take b c)) _ True.intro ((ay (n:=m+10) (z6.pull (A:=hand h _) (by symm)) nofun).sub (by ac_nf))
 right;refine bK (λg4=>?_) (λg4=>?_)
 .right;rename_i l4 H4 hs4;rcases(by omega:wy=11\/wy=12) with rfl|rfl
  .right;rename_i t H11 hs11;have z6:Sep (tu t (Rw.tl (.sp (.read b)))::_) _:=hs11.toT;exact q t (.sp (.read b)) _ True.intro ((ay (n:=m+10) (z6.pull (A:=hand h _) (by symm)) nofun).sub (by ac_nf))
  .right;rename_i t H11 hs11;have z6:Sep (tu t (Rw.tl (.sp (.write b)))::_) _:=hs11.toT;exact q t (.sp (.write b)) _ True.intro ((ay (n:=m+10) (z6.pull (A:=hand h _) (by symm)) nofun).sub (by ac_nf))
 walk_at "gd";rename_i r6 H6 r60 r61 hs6 l7 H7 hs7 r8 H8 r80 r81 hs8;obtain⟨o,e3,ho⟩:=CM r80 r81;refine eX (by grind) e3 ?_;right;rename_i t H11 hs11;have z6:Sep (tu t (Rw.tl (.hop r6 o))::_) _:=hs11.toT;exact q t (.hop r6 o) _ ⟨⟨by omega,by omega⟩,ho⟩ ((ay (n:=m+10) (z6.pull (A:=hand h _) (by symm)) nofun).sub (by ac_nf))
def ua {t:Addr}(r:Rw)(ro:Ro K R)(hk:5<=k)(ok:r.ok)(z:Sep (tu t r.tl::O) H)(q:∀ d H',Sep (tH R d r::tu t r.tl::O) H'->Q (v0 d) H'):ae tab R k 61 [v0 t] H Q E:=by
 delta hG;cases r with
 |lg w=>
  have f:∀ x ∈ ([("set":Str),"add","take","read","write","hop"]),jy (v6 w.s) (v6 x)=false:=by cases w<;>decide+kernel
  right;refine aL (f "set" (by decide)) ?_;right;refine aL (f "add" (by decide)) ?_;right;refine aL (f "take" (by decide)) ?_;right;refine aL (f "read" (by decide)) ?_;right;refine aL (f "write" (by decide)) ?_;right;refine aL (f "hop" (by decide)) ?_;right;exact CD w nofun z q
 |hop n o=>
  right
  repeat walk_at "sc"
  intro d dx g1 g2 g3;exact vI ro nofun ok.1.1 ok.1.2 ok.2 (bX z g1 g2 g3) (λH2 z2=>⟨rfl,q d H2 z2⟩)
 |sp s=>
  cases s with
  |set n i=>
   right
   repeat walk_at "sc"
   intro d dx g1 g2 g3;exact zX ro nofun ok.1 ok.2 (bX z g1 g2 g3) (λH2 z2=>⟨rfl,q d H2 z2⟩)
  |add n i=>
   right
   repeat walk_at "sc"
   intro d dx g1 g2 g3;exact Ao ro nofun ok.1 ok.2 (bX z g1 g2 g3) (λH2 z2=>⟨rfl,q d H2 z2⟩)
  |take n m=>
   right
   repeat walk_at "sc"
   intro d dx g1 g2 g3;exact zW ro nofun (bX z g1 g2 g3) (λH2 z2=>⟨rfl,q d H2 z2⟩)
  |read n=>
   right
   repeat walk_at "sc"
   intro d dx g1 g2 g3;exact zG ro nofun (bX z g1 g2 g3) (λH2 z2=>⟨rfl,q d H2 z2⟩)
  |write n=>
   right
   repeat walk_at "sc"
   intro d dx g1 g2 g3;exact zU ro nofun (bX z g1 g2 g3) (λH2 z2=>⟨rfl,q d H2 z2⟩)
section
variable {F G:List ar}{v:V}{n:Nat}{h rm:Addr}{m r:Int}
abbrev Cc (R:Rt)(n:Nat):Prop:=∀ {k:Nat}{F G:List ar}{h rm:Addr}{m r:Int}{H:Hp}{Q:VK}{E:XK},2*n+5<=k->0<=r->r<=30->m+cR n<=1099000000000->Sep (hand h m::pt rm (wl [v4 r])::(G++F)) H->
 (∀ l b vs r' Δ H',0<=r'->r'<=r->iQ n b->b.length<=5->(ax (aE (b.map (ao n))):Int)<=60*(r-r')->pt l (wl vs) ∈ Δ++F->bN (cg (Δ++F) n) vs b->Sep (hand h (m+cR n)::pt rm (wl [v4 r'])::(G++(Δ++F))) H'->Q (v0 l) H')->ae tab R k 65 [v0 h,v4 (4-(n:Int)),v0 rm] H Q E
abbrev AZ (R:Rt)(n:Nat):Prop:=∀ {k:Nat}{F G:List ar}{h rm:Addr}{m r:Int}{H:Hp}{Q:VK}{E:XK},2*n+4<=k->0<=r->r<=30->m+cst n<=1099000000000->Sep (hand h m::pt rm (wl [v4 r])::(G++F)) H->
 (∀ v i r' Δ H',0<=r'->r'<=r->a9 n i->(ax (ao n i):Int)+2<=60*(1+r-r')->cg (Δ++F) n v i->Sep (hand h (m+cst n)::pt rm (wl [v4 r'])::(G++(Δ++F))) H'->Q v H')->ae tab R k 66 [v0 h,v4 (4-(n:Int)),v0 rm] H Q E
def Cp (n:Nat):15<=cst n:=(qL n).1
def cS:ax (aQ n b)=ax (aE (b.map (ao n)))+4:=by
 show ax (bR::(aE _++[aR]))=_;rw[aa,az,aa,show(bR).length=1 by decide+kernel,show(aR).length=1 by decide+kernel,show ax []=0 from rfl]
 omega
def yv {c:List Itm}:ax (iq (c.map (ao n)))<=ax (aE (c.map (ao n)))+9:=by
 unfold iq
 split
 .exact Nat.zero_le _
 .rw[aa,cS,show(jx).length=4 by decide+kernel];omega
def il {L:List ar}{P:List ar}(z:Sep (P++(L++(G++(Δ++F)))) H):Sep (P++(G++((L++Δ)++F))) H:=by
 have z1:=Sep.mv (P:=P) (Δ:=L) (L:=G) (O:=Δ++F) z;rw[li];exact z1
def kY (ih:∀ p,n=p+1->Cc R p):AZ R n:=by
 intro k F G h rm m r H Q E hk hr0 hr1 hm z q;have h15:=Cp n;delta cp;walk_at "gd";rename_i way H1 w0 w1 z1;have deed:∀ {H:Hp},Sep (hand h (m+1)::pt rm (wl [v4 r])::(G++F)) H->ae tab R (k-1) 60 [v0 h,v4 60] H (λy H2=>oz [v6 (Str.ofString "deed"),y] H2 Q) E:=λ{H} z=>by
  refine qb nofun z nofun (by decide) (by decide) λt rr H2 okr z2=>?_
  refine n8 z2 (by walk_at "ar") λp H3 z3=>?_
  have ht:=ph okr;refine q (v0 p) (.row rr) r [tu p [v6 (Str.ofString "deed"),v0 t],tu t rr.tl] H3 hr0 (Int.le_refl _) (by cases n<;>exact okr) (by
   have:ax (ao n (.row rr))=ax rr.zs:=by cases n<;>rfl
   rw[this];omega) (by cases n<;>exact⟨p,t,rfl,lw,f8 _ lw⟩) ?_
  have z4:=il (P:=[hand h (m+cst n),pt rm (wl [v4 r])]) (L:=[tu p _,tu t _]) (Δ:=[]) (G:=G) (F:=F) (((ay (z3.toT.sub (Γ':=hand h (m+1+10)::tu p [v6 (Str.ofString "deed"),v0 t]::tu t rr.tl::pt rm (wl [v4 r])::(G++F)) (.cons .k2 (.cons .e (.cons .e (.cons .e .refl))))) nofun)).sub (.cons .e (.cons .k2 (.cons .e (.cons .e .refl)))));exact z4
 refine bK (λg=>?_) (λg=>?_)
 .right;exact deed z1
 left;refine b6 rfl rfl ?_;left;have go:¬ ((n:Int)=0/\5<way)->wB (c8 2 cp.body) ⟨tab,R,ae tab R (k-1),true⟩ { nx:=λ_ H'=>Q wf H',rt:=Q } (λ_=>E) [some (v0 h),some (v4 (4-(n:Int))),some (v0 rm),some (v4 way),none] H1:=λhn=>by
  left;refine b6 rfl rfl ?_;left;refine gQ (λg5=>?_) (λg5=>?_)
  .right;refine yw nofun z1 nofun λw H2 hw z2=>?_
   right;rename_i p H3 z3;refine q (v0 p) (.dO w) r [tu p [v6 (Str.ofString "do"),v6 w]] H3 hr0 (Int.le_refl _) (by cases n<;>exact hw) (by
    have:ax (ao n (.dO w))=ax [qK,w]:=by cases n<;>rfl
    have:=hw.1.2;rw[‹ax (ao n (.dO w))=ax [qK,w]›,aa,aa,show(qK).length=2 by decide+kernel,show ax []=0 from rfl];omega) (by cases n<;>exact⟨p,rfl,lw⟩) ?_
   exact il (P:=[hand h (m+cst n),pt rm (wl [v4 r])]) (L:=[tu p _]) (Δ:=[]) (G:=G) (F:=F) ((ay (z3.toT.sub (Γ':=hand h (m+1+10)::tu p [v6 (Str.ofString "do"),v6 w]::pt rm (wl [v4 r])::(G++F)) (.cons .k1 (.cons .e (.cons .e .refl)))) nofun).sub (.cons .e (.cons .k1 (.cons .e .refl))))
  cases n with
  |zero=>exact absurd ⟨rfl,by omega⟩ hn
  |succ n=>
   have hcs:cst (n+1)=15+2*cR n:=rfl;have hbp:=kP n;have hdp:4-((n+1:Nat):Int)+1=4-(n:Int):=by omega
   left;refine b6 rfl rfl ?_;left;refine gQ (λg6=>?_) (λg6=>?_)
   .walk_at "gd";rename_i c H2 c0 c1 z2;rw[hdp];refine ih n rfl (k:=k-1) nofun hr0 hr1 nofun z2 λl b vs r' Δ H3 r0' r1' okb hb5 ht hl al z3=>?_
    right;rename_i p H4 z4;have up:∀ A,A ∈ Δ++F->A ∈ (tu p [v6 (Str.ofString "times"),v4 c,v0 l]::Δ)++F:=λA h=>f8 _ h
    have hnw:(nw c).length<=11:=(ff (i:=c) nofun).1;refine q (v0 p) (.tms c b) r' (tu p [v6 (Str.ofString "times"),v4 c,v0 l]::Δ) H4 r0' r1' ⟨⟨c0,by omega⟩,okb⟩ ?_ ⟨p,l,vs,rfl,lw,up _ hl,al.map λv i=>cg.mono up⟩ ?_
    .show((ax (j3::nw c::aQ n b):Nat):Int)+2<=_;rw[aa,aa,cS,show(j3).length=5 by decide+kernel]
     omega
    .exact il (P:=[hand h (m+cst (n+1)),pt rm (wl [v4 r'])]) (L:=[tu p _]) (Δ:=Δ) (G:=G) (F:=F) ((ay (z4.toT.sub (Γ':=hand h (m+1+1+cR n)::tu p [v6 (Str.ofString "times"),v4 c,v0 l]::pt rm (wl [v4 r'])::(G++(Δ++F))) (.cons .k1 (.cons .e (.cons .e .refl)))) nofun).sub (.cons .e (.cons .k1 (.cons .e .refl))))
   .walk_at "gd";rename_i lo H2 z2 oc H3 o0 o1 z3
    -- behind the other block
    have fin:∀ {H:Hp}{lo:Addr}{c:List Itm}{us:List V}{r1:Int}{Δ:List ar},0<=r1->r1<=r->iQ n c->((ax (aE (c.map (ao n))):Nat):Int)<=60*(r-r1)->pt lo (wl us) ∈ Δ++F->bN (cg (Δ++F) n) us c->Sep (hand h (m+3+cR n)::pt rm (wl [v4 r1])::(G++(Δ++F))) H->wB (c8 6 cp.body) ⟨tab,R,ae tab R (k-1),true⟩ { nx:=λ_ H'=>Q wf H',rt:=Q } (λ_=>E) [some (v0 h),some (v4 (4-((n+1:Nat):Int))),some (v0 rm),some (v4 way),some (v0 lo)] H:=by
     intro H lo c us r1 Δ r10 r11 okc htc hlo alc z;walk_at "gd";rename_i on H4 on0 on1 z4;rw[hdp];refine ih n rfl (k:=k-1) nofun r10 nofun nofun z4 λl b vs r' Δ2 H5 r0' r1' okb hb5 ht hl al z5=>?_
     right;rename_i p H6 z6;have up:∀ A,A ∈ Δ2++(Δ++F)->A ∈ (tu p [v6 (Str.ofString "when"),v4 on,v0 l,v0 lo]::(Δ2++Δ))++F:=λA h=>by
      refine f8 _ ?_;show A ∈ (Δ2++Δ)++F;rw[li];exact h
     have upr:∀ A,A ∈ Δ++F->A ∈ (tu p [v6 (Str.ofString "when"),v4 on,v0 l,v0 lo]::(Δ2++Δ))++F:=λA h=>up A (jp _ h)
     have hnw:(nw on).length<=11:=(ff (i:=on) nofun).1;refine q (v0 p) (.whn on b c) r' _ H6 r0' nofun ⟨by omega,okb,okc⟩ ?_ ⟨p,l,vs,lo,us,rfl,lw,⟨up _ hl,al.map λv i=>cg.mono up⟩,upr _ hlo,alc.map λv i=>cg.mono upr⟩ ?_
     .show((ax (dq::nw on::(aQ n b++iq (c.map (ao n)))):Nat):Int)+2<=_;have:=yv (n:=n) (c:=c);rw[aa,aa,az,cS,show(dq).length=4 by decide+kernel]
      omega
     .have z7:=il (P:=[hand h (m+cst (n+1)),pt rm (wl [v4 r'])]) (L:=[tu p _]) (Δ:=Δ2) (G:=G) (F:=Δ++F) ((ay (z6.toT.sub (Γ':=hand h (m+3+cR n+1+cR n)::tu p [v6 (Str.ofString "when"),v4 on,v0 l,v0 lo]::pt rm (wl [v4 r'])::(G++(Δ2++(Δ++F)))) (.cons .k1 (.cons .e (.cons .e .refl)))) nofun).sub (.cons .e (.cons .k1 (.cons .e .refl))));simpa using z7
    refine gQ (λg7=>?_) (λg7=>?_)
    .right;rw[hdp];refine ih n rfl (k:=k-1) (G:=pt lo (wl [])::G) nofun hr0 hr1 nofun (z3.sub (.cons .e (.cons .k1 (.cons .e .refl)))) λl b vs r' Δ H5 r0' r1' okb hb5 ht hl al z5=>?_
     refine fin r0' r1' okb ht hl al ?_;exact ay (z5.sub (Γ':=hand h (m+1+1+cR n)::pt rm (wl [v4 r'])::(G++(Δ++F))) (.cons .e (.cons .e (.drop .refl)))) nofun
    .refine fin (c:=[]) (us:=[]) (Δ:=[pt lo (wl [])]) hr0 (Int.le_refl _) ⟨by decide,λi hi=>nomatch hi⟩ (by show((0:Nat):Int)<=_;omega) lw .nil ?_;exact il (P:=[hand h (m+3+cR n),pt rm (wl [v4 r])]) (L:=[pt lo (wl [])]) (Δ:=[]) (G:=G) (F:=F) ((ay (z3.sub (Γ':=hand h (m+1+1)::pt lo (wl [])::pt rm (wl [v4 r])::(G++F)) (.cons .e (.cons .e (.cons .e .refl)))) nofun).sub (.cons .e (.cons .k1 (.cons .e .refl))))
 refine gQ (λg4=>?_) (λg4=>?_)
 .left;refine bK (λg5=>?_) (λg5=>?_)
  .right;exact deed z1
  .exact go λhh=>g5 hh.2
 .left;refine aL rfl ?_;exact go λhh=>g4 nofun
def vd (hi:AZ R n):Cc R n:=by
 intro k F G h rm m r H Q E hk hr0 hr1 hm z q;have hcb:=qL n;delta gc;walk_at "gd";rename_i fd H1 z1 p2 H2 z2 r1 H3 a0 a1 z3;obtain⟨v,ev,M,rfl,M0,M1⟩:∃ v,iB [v4 1,v4 2,v4 3,v4 0,v4 2,v4 5] r1=some v/\inR 0 5 v:=mJ a0 (by simpa using a1) (λv hv=>by
  simp only[mo,not_mem_nil,or_false]at hv;rcases hv with rfl|rfl|rfl|rfl|rfl|rfl<;>exact⟨_,rfl,by decide,by decide⟩)
 refine eX (by grind) ev ?_;have z4:Sep (hand h (m+1)::pt rm (wl [v4 r])::pt fd (wl [])::(G++F)) H3:=z3.sub (.cons .e (.cons .k2 (.cons .k1 (.drop .refl))));clear z z1 z2 z3 ev;right;refine lS (n:=M.toNat) (λj U H=>∃ (b:List Itm) (vs:List V) (r':Int) (Δ:List ar) (u4:Option V),U=[some (v0 h),some (v4 (4-(n:Int))),some (v0 rm),some (v0 fd),u4]/\b.length<=j/\(∀ i ∈ b,a9 n i)/\bN (cg (Δ++F) n) vs b/\0<=r'/\r'<=r/\((ax (aE (b.map (ao n))):Nat):Int)<=60*(r-r')/\Sep (hand h (m+1+(j:Int)*cst n)::pt rm (wl [v4 r'])::pt fd (wl vs)::(G++(Δ++F))) H) ?_ ?_ ?_
 .exact⟨[],[],r,[],_,rfl,s0 _,(λi hi=>nomatch hi),.nil,hr0,Int.le_refl _,by show((0:Nat):Int)<=_;omega,ay z4 (by simp)⟩
 .rintro j U H hj ⟨b,vs,r',Δ,u4,rfl,hl,ok,al,r0',r1',ht,z5⟩;have hjc:(j:Int)*cst n<=4*cst n:=Int.mul_le_mul_of_nonneg_right nofun nofun;have hj1:((j+1:Nat):Int)*cst n=(j:Int)*cst n+cst n:=by rw[Int.natCast_add,Int.add_mul];omega
  have hv5:=al.1;right;refine bK (λg=>?_) (λg=>?_)
  .right;rename_i H5 z6;refine⟨_,_,rfl,z6.get .k2,?_⟩;right;refine hi (k:=k-1) (G:=pt fd (wl vs)::G) (F:=Δ++F) nofun (r:=r'-1) nofun nofun nofun z6 λv i r2 Δ2 H6 r20 r21 oki hti si z7=>?_
   left;refine⟨_,z7.get .k2,jh z7 .k2 nofun λH8 z8=>?_⟩;right;have hsn:=lJ (l:=b.map (ao n)) (y:=ao n i);refine⟨b++[i],vs++[v],r2,Δ2++Δ,_,rfl,by rw[db,gt];omega,λx hx=>?_,?_,r20,by omega,?_,?_⟩
   .rcases mem_append.mp hx with hx|hx
    .exact ok x hx
    .rw[mem_singleton.mp hx];exact oki
   .rw[li];exact(al.map λv i=>cg.mono λA=>jp _).snoc si
   .rw[ge];show((ax (aE (b.map (ao n)++[ao n i])):Nat):Int)<=_
    omega
   .rw[li];exact ay z8 (by rw[hj1];omega)
  .right;refine⟨b,vs,r',Δ,_,rfl,by omega,ok,al,r0',r1',ht,ay z5 (by rw[hj1];omega)⟩
 .rintro U H ⟨b,vs,r',Δ,u4,rfl,hl,ok,al,r0',r1',ht,z5⟩;have hjc:((M.toNat:Nat):Int)*cst n<=5*cst n:=Int.mul_le_mul_of_nonneg_right nofun nofun;right;refine q fd b vs r' (pt fd (wl vs)::Δ) H r0' r1' ⟨by omega,ok⟩ nofun ht lw (al.map λv i=>cg.mono λA h=>f8 _ h) ?_;exact il (P:=[hand h (m+cR n),pt rm (wl [v4 r'])]) (L:=[pt fd (wl vs)]) (Δ:=Δ) (G:=G) (F:=F) (ay z5 nofun)
def ud:∀ n,Cc R n
 |0=>vd (kY λm e=>absurd e nofun)
 |n+1=>vd (kY λm e=>by cases e;exact ud n)
end
def fD {A:ar}{Δ F:List ar}:∀ {G Γ':List ar},au A (G++F) Γ'->∃ Γ2,au A (G++(Δ++F)) Γ2
 | [],_,h=>⟨_,ah (L:=Δ) (O:=F) h⟩
 |B::G,_,h=>by
  cases h with
  |e=>exact⟨_,.e⟩
  |t h=>
   obtain⟨Γ2,p⟩:=fD (G:=G) h;exact⟨_,.t p⟩
section
variable {F G:List ar}{n:Nat}
abbrev xq (R:Rt)(n:Nat):Prop:=∀ {k:Nat}{F G Δ':List ar}{l':Addr}{us:List V}{b:List Itm}{H:Hp}{Q:VK}{E:XK},n+8<=k->iQ n b->au (pt l' (wl us)) (G++F) Δ'->bN (cg F n) us b->Sep (G++F) H->(∀ l vs Δ H',bN (fg R (Δ++F) n) vs b->Sep (pt l (wl vs)::(G++(Δ++F))) H'->Q (v0 l) H')->ae tab R k 69 [v0 l'] H Q E
def uR {l':Addr}{u:V}{i:Itm}{DD:Ends}{E:St->XK}(ro:Ro K R)(ih:∀ p,n=p+1->xq R p) (hk:n+8<=k) (hl:vs.length<=30) (ok:a9 n i) (si:cg F n u i) (z:Sep (pt D (wl vs)::(G++F)) H)
  (q:∀ v Δ H',fg R (Δ++F) n v i->Sep (pt D (wl (vs++[v]))::(G++(Δ++F))) H'->DD.nx [some (v0 l'),some (v0 D),some u] H'):
  wB (Cn (c8 1 dE.body)) ⟨tab,R,ae tab R (k-1),true⟩ DD E [some (v0 l'),some (v0 D),some u] H:=by
 have add:∀ {x:Addr}{L Δ:List ar}{H:Hp},fg R ((L++Δ)++F) n (v0 x) i->Sep (pt D (wl vs)::(L++(G++(Δ++F)))) H->∃ xs,H D=some (wl xs)/\t6 .append D xs [v0 x] H λ_ H1=>DD.nx [some (v0 l'),some (v0 D),some u] H1:=λ{x L Δ H} im z=>by
  have z1:=il (P:=[pt D (wl vs)]) (L:=L) (Δ:=Δ) (G:=G) (F:=F) z;exact⟨_,z1.at,jh z1 .e nofun λH' z'=>q _ _ _ im z'⟩
 cases i with
 |row r=>
  obtain⟨t,s,rfl,m1,m2⟩:∃ t s,u=v0 t/\tu t [v6 "deed",v0 s] ∈ F/\tu s r.tl ∈ F:=by cases n<;>exact si
  have ok':r.ok:=by cases n<;>exact ok
  have e:=g9 (G:=_::G) m1 z;right;refine aB e rfl ?_;right;refine⟨_,_,rfl,z.at,?_⟩;right;refine aB e rfl ?_;right;refine ua r ro nofun ok' (Sep.EJ (g9 (G:=_::G) m2 z) z) λd H1 z1=>?_
  left;exact add (L:=[tH R d r]) (Δ:=[]) (by cases n<;>exact⟨d,rfl,lw⟩) (z1.sub (.cons .k2 (.cons .e (.drop .refl))))
 |dO w=>
  obtain⟨t,rfl,m1⟩:∃ t,u=v0 t/\tu t [v6 "do",v6 w] ∈ F:=by cases n<;>exact si
  have e:=g9 (G:=_::G) m1 z;right;refine aB e rfl ?_;right;refine aB e rfl ?_;right;refine⟨_,_,rfl,z.at,?_⟩;right;refine aB e rfl ?_;right;intro x dx h1 h2 h3;refine nc nofun (bX z h1 h2 h3) (λH1 z1=>⟨rfl,?_⟩);left;exact add (L:=[pt x (wp (R.cad 10) dx [("called",v6 w)])]) (Δ:=[]) (by cases n<;>exact⟨x,dx,rfl,lw⟩) (z1.sub (.cons .k2 (.cons .e (.drop .refl))))
 |tms m b=>
  cases n with
  |zero=>exact si.elim
  |succ n=>
   obtain⟨t,l,vs2,rfl,m1,m2,a⟩:=si;obtain⟨Δ0,pl⟩:=av m2;have e:=g9 (G:=_::G) m1 z;right;refine aB e rfl ?_;right;refine aB e rfl ?_;right;refine aB e rfl ?_;right;refine⟨_,_,rfl,z.at,?_⟩;right;refine aB e rfl ?_;right;refine aB e rfl ?_;right;refine ih n rfl (G:=pt D _::G) nofun ok.2 (.t (ah pl)) a z λp ws Δ H1 am z1=>?_
   right;intro x dx h1 h2 h3;have z2:Sep (pt D (wl vs)::(G++((pt p (wl ws)::Δ)++F))) H1:=il (P:=[pt D (wl vs)]) (L:=[pt p (wl ws)]) (Δ:=Δ) (G:=G) (F:=F) (z1.pull .k1);refine nA (G:=pt dx (.own x)::pt D (wl vs)::G) (F:=(pt p (wl ws)::Δ)++F) nofun lw (bX z2 h1 h2 h3) λl2 H4 z6=>⟨rfl,?_⟩
   left;refine add (L:=[pt x (wp (R.cad 11) dx [("many",v4 m),("block",v0 l2)]),pt l2 (wl ws)]) (Δ:=pt p (wl ws)::Δ) ⟨x,dx,l2,ws,rfl,lw,f8 _ lw,am.map λv i=>fg.mono λA h=>f8 _ (f8 _ (f8 _ h))⟩ ?_;exact z6.sub (.cons .k3 (.cons .e (.cons .e (.drop .refl))))
 |whn o b c=>
  cases n with
  |zero=>exact si.elim
  |succ n=>
   obtain⟨t,l,vs2,lo,us2,rfl,m1,⟨m2,a⟩,m3,a'⟩:=si;obtain⟨Δ0,pl⟩:=av m2;obtain⟨Δ0',plo⟩:=av m3;have e:=g9 (G:=_::G) m1 z;right;refine aB e rfl ?_;right;refine aB e rfl ?_;right;refine aB e rfl ?_;right;refine aB e rfl ?_;right;rename_i pn H0 z0;refine eq_nil (fz (G:=_::_::G) m3 z0) z0.at (Aq (G:=_::G) m3 z0) ?_;have z:Sep (pt D (wl vs)::(G++F)) H0:=z0.drop;have e:=g9 (G:=_::G) m1 z
   by_cases g:us2.length=0
   .have hc:c=[]:=length_eq_zero_iff.mp (by rw[<-a'.1];exact g);subst hc;rw[decide_eq_true g];right;refine⟨_,_,rfl,z.at,?_⟩;right;refine aB e rfl ?_;right;refine aB e rfl ?_;right;refine ih n rfl (G:=pt D _::G) nofun ok.2.1 (.t (ah pl)) a z λp ws Δ H1 am z1=>?_
    right;intro x dx h1 h2 h3;have z2:Sep (pt D (wl vs)::(G++((pt p (wl ws)::Δ)++F))) H1:=il (P:=[pt D (wl vs)]) (L:=[pt p (wl ws)]) (Δ:=Δ) (G:=G) (F:=F) (z1.pull .k1);refine jQ (G:=pt dx (.own x)::pt D (wl vs)::G) (F:=(pt p (wl ws)::Δ)++F) nofun lw (bX z2 h1 h2 h3) λl2 l3 H4 z6=>⟨rfl,?_⟩
    left;refine add (L:=[pt x (wp (R.cad 12) dx [("on",v4 o),("block",v0 l2),("other",v0 l3)]),pt l2 (wl ws),pt l3 (wl [])]) (Δ:=pt p (wl ws)::Δ) ⟨x,dx,l2,ws,l3,[],rfl,lw,⟨f8 _ lw,am.map λv i=>fg.mono λA h=>f8 _ (f8 _ (f8 _ (f8 _ h)))⟩,f8 _ (f8 _ lw),.nil⟩ ?_;exact z6.sub (.cons (.t .k3) (.cons .e (.cons .e (.cons .e (.drop .refl)))))
   .rw[decide_eq_false g];right;refine⟨_,_,rfl,z.at,?_⟩;right;refine aB e rfl ?_;right;refine aB e rfl ?_;right;refine ih n rfl (G:=pt D _::G) nofun ok.2.1 (.t (ah pl)) a z λp ws Δ H1 am z1=>?_
    have z2:Sep (pt D (wl vs)::(G++((pt p (wl ws)::Δ)++F))) H1:=il (P:=[pt D (wl vs)]) (L:=[pt p (wl ws)]) (Δ:=Δ) (G:=G) (F:=F) (z1.pull .k1);have upF:∀ A,A ∈ F->A ∈ (pt p (wl ws)::Δ)++F:=λA=>jp _
    right;refine aB (g9 (G:=_::G) (upF _ m1) z2) rfl ?_;right;obtain⟨Δ3,plo2⟩:=av (upF _ m3);refine ih n rfl (G:=pt D _::G) (F:=(pt p (wl ws)::Δ)++F) nofun ok.2.2 (.t (ah plo2)) (a'.map λv i=>cg.mono upF) z2 λp' ws' Δ' H3 am' z3=>?_
    right;intro x dx h1 h2 h3;have z4:Sep (pt D (wl vs)::(G++((pt p' (wl ws')::Δ')++((pt p (wl ws)::Δ)++F)))) H3:=il (P:=[pt D (wl vs)]) (L:=[pt p' (wl ws')]) (Δ:=Δ') (G:=G) (F:=(pt p (wl ws)::Δ)++F) (z3.pull .k1);refine kC (G:=pt dx (.own x)::pt D (wl vs)::G) (F:=(pt p' (wl ws')::Δ')++((pt p (wl ws)::Δ)++F)) (p:=p) (p':=p') (vs:=ws) (vs':=ws') nofun (dN lw) lw (bX z4 h1 h2 h3) λl2 l3 H4 z6=>⟨rfl,?_⟩
    left;have up:∀ A,A ∈ Δ'++((pt p (wl ws)::Δ)++F)->A ∈ ([pt x (wp (R.cad 12) dx [("on",v4 o),("block",v0 l2),("other",v0 l3)]),pt l2 (wl ws),pt l3 (wl ws')]++(pt p' (wl ws')::(Δ'++(pt p (wl ws)::Δ))))++F:=λA h=>by
     refine f8 _ (f8 _ (f8 _ (f8 _ ?_)));show A ∈ (Δ'++(pt p (wl ws)::Δ))++F;rw[li];exact h
    refine add (L:=[pt x (wp (R.cad 12) dx [("on",v4 o),("block",v0 l2),("other",v0 l3)]),pt l2 (wl ws),pt l3 (wl ws')]) (Δ:=pt p' (wl ws')::(Δ'++(pt p (wl ws)::Δ))) ⟨x,dx,l2,ws,l3,ws',rfl,lw,⟨f8 _ lw,am.map λv i=>fg.mono λA h=>up A (dN (f8 _ h))⟩,f8 _ (f8 _ lw),am'.map λv i=>fg.mono up⟩ ?_;have z7:=z6.sub (Γ':=pt D (wl vs)::pt x (wp (R.cad 12) dx [("on",v4 o),("block",v0 l2),("other",v0 l3)])::pt l2 (wl ws)::pt l3 (wl ws')::(G++((pt p' (wl ws')::Δ')++((pt p (wl ws)::Δ)++F)))) (.cons (.t .k3) (.cons .e (.cons .e (.cons .e (.drop .refl)))));simpa using z7
def qC (ro:Ro K R)(ih:∀ p,n=p+1->xq R p):xq R n:=by
 intro k F G Δ' l' us b H Q E hk ok pl a z q;delta dE;have hb:us.length=b.length:=a.1;have hl:=ok.1;right;rename_i D H1 z1;refine AU (z1.get (.t pl)) ?_;refine qE (xs:=us) (λj U H=>∃ u2 vs Δ,U=[some (v0 l'),some (v0 D),u2]/\bN (fg R (Δ++F) n) vs (b.take j)/\(∃ Δ2,au (pt l' (wl us)) (G++(Δ++F)) Δ2)/\Sep (pt D (wl vs)::(G++(Δ++F))) H) ⟨_,[],[],rfl,.nil,⟨_,pl⟩,z1⟩ ?_ ?_ ?_
 .rintro j U H ⟨u2,vs,Δ,rfl,al,⟨Δ2,p2⟩,hs⟩;exact aV.of (hs.get (.t p2))
 .rintro j u U H hx ⟨u2,vs,Δ,rfl,al,⟨Δ2,p2⟩,hs⟩;obtain⟨i,ei,si⟩:=a.get hx;have hv:=al.1;rw[dL]at hv;refine uR (k:=k) (F:=Δ++F) ro ih hk nofun (ok.2 i (dl ei)) (cg.mono (λA=>dN) si) hs λv Δ3 H' im z'=>?_
  refine⟨_,vs++[v],Δ3++Δ,rfl,?_,?_,?_⟩
  .rw[take_succ,ei,li];exact(al.map λv i=>fg.mono λA=>dN).snoc im
  .rw[li];exact fD p2
  .rw[li];exact z'
 .rintro U H ⟨u2,vs,Δ,rfl,al,⟨Δ2,p2⟩,hs⟩;rw[hb,take_of_length_le (s0 _)]at al;right;exact q D vs Δ H al hs
def EA (ro:Ro K R):∀ n,xq R n
 |0=>qC ro λm e=>absurd e nofun
 |n+1=>qC ro λm e=>by cases e;exact EA ro n
end
def oZ:∀ {L O:List ar}{H:Hp},Sep (L++O) H->Sep O H
 | [],_,_,z=>z
 |_::_,_,_,z=>oZ z.drop
def pY {G:List ar}(z:Sep (G++(Δ++F)) H):Sep (G++F) H:=oZ (toF (L:=G) (G:=Δ) (F:=F) z)
section
variable {F G Δ':List ar}{l':Addr}{us:List V}{b:List Itm}
def dQ (ro:Ro K R)(hk:25<=k)(ok:iQ 3 b)(hb:ax (aQ 3 b)<=8000)(pl:au (pt l' (wl us)) (G++F) Δ')(a:bN (cg F 3) us b)(z:Sep (G++F) H)(q:∀ H',Sep (G++F) H'->Q (.bl true) H'):ae tab R k 72 [v0 l'] H Q E:=by
 have hlen:(aQ 3 b).length<=9000:=Nat.le_trans (qW _) nofun;have htx:(js 3 b).length<=99999:=Nat.le_trans gC nofun;delta fY;right;refine uo ro 3 (k:=k-1) nofun ok nofun pl a z λH1 z1=>?_
 right;refine lS (n:=2) (λj U H=>∃ u2 u3,U=[some (v0 l'),some (v6 (js 3 b)),u2,u3,none]/\Sep (G++F) H) ⟨_,_,rfl,z1⟩ ?_ ?_
 .rintro j U H hj ⟨u2,u3,rfl,z2⟩;right;refine iu ro (k:=k-1) nofun htx (jv ok) z2 ?_;rw[pD ok];intro l vs Δ H3 okb al z3;obtain⟨Γ2,p2⟩:=fD (Δ:=Δ) (F:=F) (G:=G) pl;right;refine kJ ro 3 (k:=k-1) (G:=pt l (wl vs)::G) (F:=Δ++F) nofun ok .e al (.t p2) (a.map λv i=>cg.mono λA=>dN) z3 λH4 z4=>?_
  right;refine ir ro (k:=k-1) (n:=3) (G:=pt l (wl vs)::G) (F:=Δ++F) nofun ok hlen nofun .e al z4 λH5 z5=>?_
  right;refine aY (cG rfl) ?_;right;refine⟨_,_,rfl,z5.at,?_⟩;right;refine BE z5 λx dx' H6 z6=>?_
  left;have hv:=al.1;have hl24:=ok.1;refine⟨_,z6.get .k2,jh z6 .k2 nofun λH7 z7=>?_⟩;right;have z8:Sep (G++(Δ++F)) H7:=z7.drop.drop.drop;exact⟨_,_,rfl,(pY (Δ:=Δ) z8)⟩
 .rintro U H ⟨u2,u3,rfl,z2⟩;right;refine EA ro 3 (k:=k-1) nofun ok pl a z2 λl vs Δ H3 al z3=>?_
  obtain⟨Γ2,p2⟩:=fD (Δ:=Δ) (F:=F) (G:=G) pl;right;refine ir ro (k:=k-1) (n:=3) (G:=pt l (wl vs)::G) (F:=Δ++F) nofun ok hlen nofun .e al z3 λH5 z5=>?_
  right;refine aY (cG rfl) ?_;right;refine kJ ro 3 (k:=k-1) (G:=pt l (wl vs)::G) (F:=Δ++F) nofun ok .e al (.t p2) (a.map λv i=>cg.mono λA=>dN) z5 λH6 z6=>?_
  right;have z8:Sep (G++F) H6:=(pY (Δ:=Δ) z6.drop);refine iu ro (k:=k-1) nofun htx (jv ok) z8 ?_;rw[pD ok];intro l2 vs2 Δ2 H7 okb2 al2 z9;right;refine ir ro (k:=k-1) (n:=3) (G:=pt l2 (wl vs2)::G) (F:=Δ2++F) nofun ok hlen nofun .e al2 z9 λH8 za=>?_
  refine b6 rfl rfl ?_;rw[cG rfl];exact q _ (pY (Δ:=Δ2) za.drop)
end
def Cv:∀ {n:Nat}{i:Itm},a9 n i->a9 (n+1) i:=by
 intro n
 induction n with
 |zero=>
  intro i h;cases i with
  |row r=>exact h
  |dO w=>exact h
  |tms m b=>exact h.elim
  |whn o b c=>exact h.elim
 |succ n ih=>
  intro i h;cases i with
  |row r=>exact h
  |dO w=>exact h
  |tms m b=>exact⟨h.1,h.2.1,λj hj=>ih (h.2.2 j hj)⟩
  |whn o b c=>exact⟨h.1,⟨h.2.1.1,λj hj=>ih (h.2.1.2 j hj)⟩,h.2.2.1,λj hj=>ih (h.2.2.2 j hj)⟩
def CG:∀ {n:Nat}{i:Itm},a9 n i->ao (n+1) i=ao n i:=by
 intro n
 induction n with
 |zero=>
  intro i h;cases i with
  |row r=>rfl
  |dO w=>rfl
  |tms m b=>exact h.elim
  |whn o b c=>exact h.elim
 |succ n ih=>
  have hb:∀ b:List Itm,(∀ i ∈ b,a9 n i)->b.map (ao (n+1))=b.map (ao n):=λb hb=>List.map_congr_left λi hi=>ih (hb i hi)
  intro i h;cases i with
  |row r=>rfl
  |dO w=>rfl
  |tms m b=>
   show j3::nw m::eg (b.map (ao (n+1)))=j3::nw m::eg (b.map (ao n));rw[hb b h.2.2]
  |whn o b c=>
   show dq::nw o::(eg (b.map (ao (n+1)))++iq (c.map (ao (n+1))))=dq::nw o::(eg (b.map (ao n))++iq (c.map (ao n)));rw[hb b h.2.1.2,hb c h.2.2.2]
def pB:∀ {n:Nat}{v:V}{i:Itm},cg F n v i->cg F (n+1) v i:=by
 intro n
 induction n with
 |zero=>
  intro v i h;cases i with
  |row r=>exact h
  |dO w=>exact h
  |tms m b=>exact h.elim
  |whn o b c=>exact h.elim
 |succ n ih=>
  intro v i h;cases i with
  |row r=>exact h
  |dO w=>exact h
  |tms m b=>
   obtain⟨t,l,vs,e,m1,m2,a⟩:=h;exact⟨t,l,vs,e,m1,m2,a.map λv i=>ih⟩
  |whn o b c=>
   obtain⟨t,l,vs,l',vs',e,m1,⟨m2,a⟩,m3,a'⟩:=h;exact⟨t,l,vs,l',vs',e,m1,⟨m2,a.map λv i=>ih⟩,m3,a'.map λv i=>ih⟩
abbrev sA (o:Int)(b:List Itm):List Str:=[bR,dq,nw o]++(aQ 2 b++[jx,bR,aR,aR])
def w9 {o:Int}(ho:o=0\/o=1)(ok:iQ 2 b):CU (sA o b)=.ok [.whn o b []] (sA o b).length:=by
 generalize hws:sA o b=ws;have h0:ws.drop 0=bR::dq::nw o::(aQ 2 b++[jx,bR,aR,aR]):=by rw[<-hws];rfl
 have h1:=aj h0;have h2:=aj h1;have h3:=aj h2;have hB:=kW (ws:=ws) 2 (b:=b) (n:=0+1+1+1) ok h3;have h4:ws.drop (0+1+1+1+(aQ 2 b).length)=jx::bR::aR::[aR]:=fB h3;have h5:=aj h4;have hE:=kW (ws:=ws) 2 (b:=[]) (n:=0+1+1+1+(aQ 2 b).length+1) (post:=[aR]) ⟨by decide,λi hi=>nomatch hi⟩ h5;have h6:=aj (aj h5);generalize hm:0+1+1+1+(aQ 2 b).length=m at*;have a0:isAt ws 0 bR=true:=by rw[ai (aq h0)];decide+kernel
 have a1:isAt ws (0+1) aR=false:=by rw[ai (aq h1)];decide+kernel
 have a2:isAt ws (0+1) qK=false:=by rw[ai (aq h1)];decide+kernel
 have a3:isAt ws (0+1) j3=false:=by rw[ai (aq h1)];decide+kernel
 have a4:isAt ws (0+1) dq=true:=by rw[ai (aq h1)];decide+kernel
 have a5:isAt ws m jx=true:=by rw[ai (aq h4)];decide+kernel
 have a6:isAt ws (m+1+1+1) bq=false:=by rw[ai (aq h6)];decide+kernel
 have a7:isAt ws (m+1+1+1) aR=true:=by rw[ai (aq h6)];decide+kernel
 have hN:cW ws (0+1+1) 0 1=some o:=cT (aq h2) nofun nofun nofun;have hI:fN (c4 ws 3) ws (0+1)=.ok (.whn o b []) (m+1+1+1):=by
  unfold fN EV;rw[a2,a3,a4,if_neg Bool.false_ne_true,if_neg Bool.false_ne_true,if_pos rfl,hN];show(match c4 ws 3 (0+1+1+1) with| .no e=>Rd.no e| .ok b e=>kH (c4 ws 3) ws o b e)=_;rw[hB];show kH (c4 ws 3) ws o b m=_;unfold kH;rw[a5,if_pos rfl,hE]
  rfl
 have hR:c4 ws 4 0=.ok [.whn o b []] (m+1+1+1+1):=by
  show pf (fN (c4 ws 3) ws) ws 0=_;unfold pf;rw[a0,if_pos rfl,a1,if_neg Bool.false_ne_true];unfold qQ;rw[hI];show(if isAt ws (m+1+1+1) bq=true then _ else if isAt ws (m+1+1+1) aR=true then Rd.ok [Itm.whn o b []] (m+1+1+1+1) else _)=_;rw[a6,if_neg Bool.false_ne_true,a7,if_pos rfl]
 have hl:ws.length=m+1+1+1+1:=by
  rw[<-hws,<-hm];unfold sA;simp only[db,length_cons,length_nil]
  omega
 unfold CU;rw[hR];show(if m+1+1+1+1=ws.length then Rd.ok [Itm.whn o b []] (m+1+1+1+1) else _)=_;rw[hl,if_pos rfl]
abbrev jD (o:Int)(b:List Itm):Str:=(((Str.ofString "( when "++nw o)++Str.ofString " ")++js 2 b)++Str.ofString " else ( ) )"
def zA {o:Int}:(jD o b).cps.toList=([40,32,119,104,101,110,32]++(nw o).cps.toList++[32]++(js 2 b).cps.toList)++[32,101,108,115,101,32,40,32,41,32,41]:=by
 unfold jD;rw[cV,cV,cV,cV,show(Str.ofString "( when ").cps.toList=[40,32,119,104,101,110,32] by decide+kernel,show(Str.ofString " ").cps.toList=[32] by decide+kernel,show(Str.ofString " else ( ) )").cps.toList=[32,101,108,115,101,32,40,32,41,32,41] by decide+kernel]
def BG {o:Int}:Txt.join bQ (sA o b)=jD o b:=PyProof.Rows.ext_toList (by
 rw[zA];show jl ([bR,dq,nw o]++(aQ 2 b++[jx,bR,aR,aR]))=_;rw[bc (a:=[bR,dq,nw o]) (cons_ne_nil _ _) (by simp),bc (a:=aQ 2 b) eL (cons_ne_nil _ _),aO,aO,aO,aO,aO,bh,bh,show(bR).cps.toList=[40] by decide+kernel,show(aR).cps.toList=[41] by decide+kernel,show(dq).cps.toList=[119,104,101,110] by decide+kernel,show(jx).cps.toList=[101,108,115,101] by decide+kernel];show _=[40,32,119,104,101,110,32]++(nw o).cps.toList++[32]++jl (aQ 2 b)++_;simp)
def rX {o:Int}(ok:iQ 2 b):Txt.split (jD o b) bQ=sA o b:=by
 rw[<-BG];have h1:32 ∉ (bR).cps.toList:=by decide+kernel
 have h2:32 ∉ (aR).cps.toList:=by decide+kernel
 have h3:32 ∉ (dq).cps.toList:=by decide+kernel
 have h4:32 ∉ (jx).cps.toList:=by decide+kernel
 refine ji (cons_ne_nil _ _) λw hw=>?_
 rcases mem_append.mp hw with hw|hw
 .simp only[mo,not_mem_nil,or_false]at hw;rcases hw with rfl|rfl|rfl
  .exact h1
  .exact h3
  .exact cj
 rcases mem_append.mp hw with hw|hw
 .exact fW (λx hx w hw=>by
   obtain⟨i,hi,rfl⟩:=List.mem_map.mp hx;exact rf (ok.2 i hi) w hw) w hw
 .simp only[mo,not_mem_nil,or_false]at hw;rcases hw with rfl|rfl|rfl|rfl
  .exact h4
  .exact h1
  .exact h2
  .exact h2
def yB {o:Int}:iK (jD o b) none (some (-11))++Str.ofString " )"=js 3 [.whn o b []]:=PyProof.Rows.ext_toList (by
 rw[cV,show(Str.ofString " )").cps.toList=[32,41] by decide+kernel];have hl:=dm (jD o b);have hE:=zA (o:=o) (b:=b);generalize hP:[40,32,119,104,101,110,32]++(nw o).cps.toList++[32]++(js 2 b).cps.toList=P at hE;have hPl:(jD o b).length=P.length+11:=by rw[hl,hE,db];rfl
 have e1:(iK (jD o b) none (some (-11))).cps.toList=P:=by
  show(((jD o b).cps.toList.drop 0).take (HT.aS (jD o b).length (jD o b).length (some (-11))-0)).toArray.toList=P;have e2:HT.aS (jD o b).length (jD o b).length (some (-11))=P.length:=by
   show(if(-11:Int)<0 then((-11:Int)+((jD o b).length:Int)).toNat else min (-11:Int).toNat (jD o b).length)=_;rw[if_pos (by decide),hPl]
   omega
  rw[e2,Nat.sub_zero,drop_zero,hE];show(P++_).take P.length=P;exact List.take_left
 rw[e1,<-hP];show _=jl (bR::((dq::nw o::(aQ 2 b++[]))++[]++[aR]));rw[append_nil,append_nil,show bR::(dq::nw o::aQ 2 b++[aR])=[bR,dq,nw o]++(aQ 2 b++[aR]) from rfl,bc (a:=[bR,dq,nw o]) (cons_ne_nil _ _) (by simp),bc (a:=aQ 2 b) eL (cons_ne_nil _ _),aO,aO,bh,bh,show(bR).cps.toList=[40] by decide+kernel,show(aR).cps.toList=[41] by decide+kernel,show(dq).cps.toList=[119,104,101,110] by decide+kernel];show _++_++_++jl (aQ 2 b)++_=_;simp)
section
variable {F G:List ar}{l' h:Addr}{m:Int}{us:List V}{b:List Itm}
def ui (ro:Ro K R)(hk:25<=k)(hm:m<=1099510000000)(ok:iQ 2 b)(hb:ax (aQ 2 b)<=4000)(hl:pt l' (wl us) ∈ F)(a:bN (cg F 2) us b)(z:Sep (hand h m::(G++F)) H)(q:∀ H',Sep (hand h (m+1)::(G++F)) H'->Q (.bl true) H'):ae tab R k 73 [v0 h,v0 l'] H Q E:=by
 obtain⟨Δ0,pl⟩:=av hl;delta aW;walk_at "gd";rename_i o H1 o0 o1 z1;have ho:o=0\/o=1:=by omega
 have hnw:(nw o).length<=11:=(ff (i:=o) nofun).1;have l1:(Str.ofString "( when ").length=7:=by decide+kernel
 have l2:(Str.ofString " ").length=1:=by decide+kernel
 have l3:(Str.ofString " else ( ) )").length=11:=by decide+kernel
 refine gb nofun ?_;left;refine⟨by rw[l1];omega,?_⟩;left;refine⟨by rw[aD,l1,l2];omega,?_⟩;right;refine uo ro 2 (k:=k-1) (G:=hand h (m+1)::G) nofun ok nofun (.t (ah pl)) a z1 λH2 z2=>?_
 have htl:=gC (n:=2) (b:=b);left;refine⟨by rw[aD,aD,l1,l2];omega,?_⟩;left;refine⟨by rw[aD,aD,aD,l1,l2,l3];omega,?_⟩;have eT:(jD o b).length<=5000:=by unfold jD;rw[aD,aD,aD,aD,l1,l2,l3];omega
 have oke:a9 3 (.whn o b []):=⟨ho,ok,by decide,λi hi=>nomatch hi⟩;have ok3:iQ 3 [.whn o b []]:=⟨pi rfl,λi hi=>by rw[mem_singleton.mp hi];exact oke⟩;have t3:ax (aQ 3 [.whn o b []])<=8000:=by
  show ax (bR::((dq::nw o::(aQ 2 b++[]))++[]++[aR]))<=_;rw[append_nil,append_nil,aa,az,aa,aa,aa,show(bR).length=1 by decide+kernel,show(aR).length=1 by decide+kernel,show(dq).length=4 by decide+kernel,show ax []=0 from rfl]
  omega
 have hlen:(aQ 3 [.whn o b []]).length<=9000:=Nat.le_trans (qW _) nofun;show wB (c8 2 aW.body) ⟨tab,R,ae tab R (k-1),true⟩ { nx:=λ_ H'=>Q wf H',rt:=Q } (λ_=>E) [some (v0 h),some (v0 l'),some (v4 o),some (v6 (jD o b)),none] H2;right;refine iu ro (k:=k-1) (G:=hand h (m+1)::G) (F:=F) nofun nofun (rX ok) z2 ?_;rw[w9 ho ok];intro l vs Δ H3 okb al z3;right;rename_i l0 H4 z4 t H5 z5 LL H6 z6;have z7:Sep ((pt l (wl vs)::pt LL (wl [v0 t])::hand h (m+1)::G)++(([tu t [v6 (Str.ofString "when"),v4 o,v0 l',v0 l0],pt l0 (wl [])]++Δ)++F)) H6:=by
  have z8:=(z6.pull .k1).toT;exact il (P:=[pt l (wl vs),pt LL (wl [v0 t]),hand h (m+1)]) (L:=[tu t _,pt l0 _]) (Δ:=Δ) (G:=G) (F:=F) (z8.sub (.cons .k3 (.cons .k1 (.cons .k2 (.cons .e (.cons .e .refl))))))
 have up:∀ A,A ∈ Δ++F->A ∈ ([tu t [v6 (Str.ofString "when"),v4 o,v0 l',v0 l0],pt l0 (wl [])]++Δ)++F:=λA h=>f8 _ (f8 _ h)
 refine kJ ro 3 (k:=k-1) (b:=[.whn o b []]) nofun ok3 .e (al.map λv i=>fg.mono up) .k1 (bN.snoc .nil ⟨t,l',us,l0,[],rfl,lw,⟨up _ (dN hl),a.map λv i=>cg.mono λA h=>up A (dN h)⟩,f8 _ lw,.nil⟩) z7 λH7 z8=>?_
 right;refine ir ro (k:=k-1) (n:=3) (b:=[.whn o b []]) nofun ok3 hlen nofun .e (al.map λv i=>fg.mono up) z8 λH8 z9=>?_
 left;refine DM (z:=jD o b) nofun ?_;left;have hc:=jg (jD o b) none (some (-11));refine⟨by rw[show(Str.ofString " )").length=2 by decide+kernel];omega,?_⟩;refine b6 rfl rfl ?_;rw[show jy (v6 (js 3 [.whn o b []])) (v6 (iK (jD o b) none (some (-11))++Str.ofString " )"))=true by rw[yB];exact cG rfl];exact q _ (pY (G:=hand h (m+1)::G) (F:=F) (oZ (L:=[pt l (wl vs),pt LL (wl [v0 t])]) z9))
end
section
variable {h:Addr}{D:Ends}{E:St->XK}{x u2 u3 u4 u5:Option V}{m:Int}
def Bc (ro:Ro K R)(hk:26<=k)(hm:m<=1000000000000)(z:Sep [hand h m] H)(q:∀ v H',Sep [hand h (m+1000000000)] H'->D.nx [x,some (v0 h),u2,v,u4,u5] H'):
  wB (Cn (c8 1 jU.body)) ⟨tab,R,ae tab R (k-1),true⟩ D E [x,some (v0 h),u2,u3,u4,u5] H:=by
 have hb3:cR 3=1000000000:=rfl;right;rename_i rm H1 z1;refine ud 3 (k:=k-1) (G:=[]) (F:=[]) (h:=h) (m:=m) (r:=30) nofun (by decide) (by decide) nofun (z1.sub (.cons .k1 (.cons .e .nil))) λl b vs r' Δ H2 r0 r1 okb hb5 ht hl al z2=>?_
 have htot:=cS (n:=3) (b:=b);have z3:Sep ([hand h (m+cR 3)]++(Δ++[])) H2:=z2.sub (.cons .e (.drop .refl));obtain⟨Δ0,pl⟩:=av hl;right;refine dQ ro (k:=k-1) (G:=[hand h (m+cR 3)]) (F:=Δ++[]) nofun okb nofun (.t pl) al z3 λH3 z4=>?_
 right;exact q _ H3 (z4.sub (.cons .e .nil))
end
def FC (n:Nat):AZ R n:=kY λm e=>by cases e;exact ud m
def AG (h:∀ x ∈ l,ax x<=c):ax (aE l)<=(c+2)*l.length:=by
 cases l with
 |nil=>exact Nat.zero_le _
 |cons a r=>
  have h1:=h a lw;have h2:∀ r:List (List Str),(∀ x ∈ r,ax x<=c)->ax ((r.map λy=>bq::y).flatten)<=(c+2)*r.length:=λr=>by
   induction r with
   |nil=>intro _;exact Nat.zero_le _
   |cons b s ih=>
    intro h;have h3:=ih λx hx=>h x (f8 _ hx)
    have h4:=h b lw;rw[map_cons,flatten_cons,az,aa,length_cons,Nat.mul_succ,show(bq).length=1 by decide+kernel]
    omega
  have h3:=h2 r λx hx=>h x (f8 _ hx)
  show ax (a++(r.map λy=>bq::y).flatten)<=_;rw[az,length_cons,Nat.mul_succ]
  omega
def bN.ins {α:Type}{P:V->α->Prop}{vs:List V}{b:List α}{v:V}{i:α}{j:Nat}(h:bN P vs b)(p:P v i):bN P (vs.take j++v::vs.drop j) (b.take j++i::b.drop j):=by
 obtain⟨hl,hp⟩:=h;refine⟨by simp[hl],λx w y h1 h2=>?_⟩;have ht:(vs.take j).length=(b.take j).length:=by simp[hl]
 by_cases hx:x<(vs.take j).length
 .rw[getElem?_append_left hx]at h1;rw[getElem?_append_left (ht▸hx)]at h2;rw[List.getElem?_take]at h1 h2
  split at h1
  .rename_i g;rw[if_pos g]at h2;exact hp x w y h1 h2
  .cases h1
 .rw[getElem?_append_right nofun]at h1;rw[getElem?_append_right nofun,<-ht]at h2;cases e:x-(vs.take j).length with
  |zero=>rw[e]at h1 h2;cases h1;cases h2;exact p
  |succ d=>
   rw[e,List.getElem?_cons_succ,List.getElem?_drop]at h1 h2;exact hp _ w y h1 h2
section
variable {h:Addr}{D:Ends}{E:St->XK}{x u2 u3:Option V}{m:Int}
def wx (ro:Ro K R)(hk:26<=k)(hm:m<=1000000000000)(z:Sep [hand h m] H)(q:∀ H',D.rt (.bl true) H'):
  wB (c8 3 jU.body) ⟨tab,R,ae tab R (k-1),true⟩ D E [x,some (v0 h),u2,u3,none,none] H:=by
 have hb2:cR 2=10000000:=rfl;have hb0:cR 0=1000:=rfl;right;rename_i rm H1 z1;refine ud 2 (k:=k-1) (G:=[]) (F:=[]) (h:=h) (m:=m) (r:=6) nofun (by decide) (by decide) nofun (z1.sub (.cons .k1 (.cons .e .nil))) λl b us r' Δ H2 r0 r1 okb hb5 ht hl al z2=>?_
 have htot:=cS (n:=2) (b:=b);generalize Δ++[]=F1 at hl al z2;have z3:Sep (hand h (m+cR 2)::F1) H2:=z2.sub (.cons .e (.drop .refl));clear z1 z2;right;rename_i rm2 H3 z4;refine ud 0 (k:=k-1) (G:=[]) (F:=F1) (h:=h) (m:=m+cR 2) (r:=6) nofun (by decide) (by decide) nofun (z4.sub (.cons .k1 (.cons .e .refl))) λl0 b0 us0 r2 Δ2 H4 r20 r21 okb0 hb50 ht0 hl0 al0 z5=>?_
 have htot0:=cS (n:=0) (b:=b0);have z6:Sep (hand h (m+cR 2+cR 0)::(Δ2++F1)) H4:=z5.sub (.cons .e (.drop .refl));clear z3 z4 z5;right;rename_i t1 H5 z7 L1 H6 z8 t2 H7 z9 t3 H8 za L2 H9 zb t4 Ha zc L3 Hb zd t5 Hc ze L4 Hd zf;have zg:=zf.sub (Γ':=pt t1 (wn [v6 (Str.ofString "times"),v4 0,v0 l0])::pt t2 (wn [v6 (Str.ofString "turn")])::pt t3 (wn [v6 (Str.ofString "deed"),v0 t2])::pt t4 (wn [v6 (Str.ofString "when"),v4 0,v0 L1,v0 L2])::pt t5 (wn [v6 (Str.ofString "times"),v4 9,v0 L3])::pt L1 (wl [v0 t1])::pt L2 (wl [v0 t3])::pt L3 (wl [v0 t4])::pt L4 (wl [v0 t5])::hand h (m+cR 2+cR 0)::(Δ2++F1))
  (.cons (.t (.t (.t (.t (.t .k3))))) (.cons (.t (.t (.t .k3))) (.cons (.t (.t .k3)) (.cons .k3 (.cons .k1 (.cons .k3 (.cons .k2 (.cons .k1 (.cons .e (.cons .e .refl))))))))))
 clear z7 z8 z9 za zb zc zd ze zf z6;have zh:Sep (tu t5 (v6 (Str.ofString "times")::[v4 9,v0 L3])::tu t4 (v6 (Str.ofString "when")::[v4 0,v0 L1,v0 L2])::tu t3 [v6 (Str.ofString "deed"),v0 t2]::tu t2 [v6 (Str.ofString "turn")]::tu t1 [v6 (Str.ofString "times"),v4 0,v0 l0]::pt L1 (wl [v0 t1])::pt L2 (wl [v0 t3])::pt L3 (wl [v0 t4])::pt L4 (wl [v0 t5])::hand h (m+cR 2+cR 0)::(Δ2++F1)) Hd:=
  (((((zg.toT).pull .k1).toT.pull .k2).toT.pull .k3).toT.pull (.t .k3)).toT
 clear zg;generalize hF:[tu t5 (v6 (Str.ofString "times")::[v4 9,v0 L3]),tu t4 (v6 (Str.ofString "when")::[v4 0,v0 L1,v0 L2]),tu t3 [v6 (Str.ofString "deed"),v0 t2],tu t2 [v6 (Str.ofString "turn")],tu t1 [v6 (Str.ofString "times"),v4 0,v0 l0],pt L1 (wl [v0 t1]),pt L2 (wl [v0 t3]),pt L3 (wl [v0 t4]),pt L4 (wl [v0 t5])]++(Δ2++F1)=F2;have zi:Sep (hand h (m+cR 2+cR 0)::F2) Hd:=by
  rw[<-hF];exact zh.sub (.cons (.t (.t (.t (.t (.t (.t .k3)))))) .refl)
 clear zh;have up2:∀ A,A ∈ Δ2++F1->A ∈ F2:=λA h=>by rw[<-hF];exact jp _ h
 have up1:∀ A,A ∈ F1->A ∈ F2:=λA h=>up2 A (jp _ h)
 have m5:tu t5 [v6 (Str.ofString "times"),v4 9,v0 L3] ∈ F2:=by rw[<-hF];simp
 have m4:tu t4 [v6 (Str.ofString "when"),v4 0,v0 L1,v0 L2] ∈ F2:=by rw[<-hF];simp
 have m3:tu t3 [v6 (Str.ofString "deed"),v0 t2] ∈ F2:=by rw[<-hF];simp
 have m2:tu t2 [v6 (Str.ofString "turn")] ∈ F2:=by rw[<-hF];simp
 have m1:tu t1 [v6 (Str.ofString "times"),v4 0,v0 l0] ∈ F2:=by rw[<-hF];simp
 have k1:pt L1 (wl [v0 t1]) ∈ F2:=by rw[<-hF];simp
 have k2:pt L2 (wl [v0 t3]) ∈ F2:=by rw[<-hF];simp
 have k3:pt L3 (wl [v0 t4]) ∈ F2:=by rw[<-hF];simp
 have k4:pt L4 (wl [v0 t5]) ∈ F2:=by rw[<-hF];simp
 clear hF;refine ui ro (k:=k-1) (G:=[]) (F:=F2) nofun nofun okb nofun (up1 _ hl) (al.map λv i=>cg.mono up1) zi λHe zj=>?_
 right;have s1:bN (cg F2 1) [v0 t1] [.tms 0 b0]:=bN.snoc .nil ⟨t1,l0,us0,rfl,m1,up2 _ hl0,al0.map λv i=>cg.mono up2⟩;have s2:bN (cg F2 1) [v0 t3] [.row (.lg .turn)]:=bN.snoc .nil ⟨t3,t2,rfl,m3,m2⟩;have s3:bN (cg F2 2) [v0 t4] [.whn 0 [.tms 0 b0] [.row (.lg .turn)]]:=bN.snoc .nil ⟨t4,L1,_,L2,_,rfl,m4,⟨k1,s1⟩,k2,s2⟩;have s4:bN (cg F2 3) [v0 t5] [.tms 9 [.whn 0 [.tms 0 b0] [.row (.lg .turn)]]]:=bN.snoc .nil ⟨t5,L3,_,rfl,m5,k3,s3⟩;have one:∀ {n:Nat}{i:Itm},a9 n i->iQ n [i]:=λh=>⟨pi rfl,λj hj=>by rw[mem_singleton.mp hj];exact h⟩
 have o1:a9 1 (.tms 0 b0):=⟨by decide,okb0⟩;have o2:a9 2 (.whn 0 [.tms 0 b0] [.row (.lg .turn)]):=⟨.inl rfl,one o1,one trivial⟩;have o4:iQ 3 [.tms 9 [.whn 0 [.tms 0 b0] [.row (.lg .turn)]]]:=one ⟨by decide,one o2⟩;have nl:∀ {i:Int},i.natAbs<=1000000000->(nw i).length<=11:=λh=>(ff h).1
 have n0:=nl (i:=0) (by decide);have n9:=nl (i:=9) (by decide);have w1:ax (ao 1 (.tms 0 b0))<=500:=by
  show ax (j3::nw 0::aQ 0 b0)<=_;rw[aa,aa,show(j3).length=5 by decide+kernel]
  omega
 have sl1:∀ {x:List Str}{c:Nat},ax x<=c->ax (eg [x])<=c+10:=λ{x c} h=>by
  show ax (bR::((x++[])++[aR]))<=_;rw[append_nil,aa,az,aa,show(bR).length=1 by decide+kernel,show(aR).length=1 by decide+kernel,show ax []=0 from rfl]
  omega
 have w2:ax (ao 2 (.whn 0 [.tms 0 b0] [.row (.lg .turn)]))<=600:=by
  show ax (dq::nw 0::(eg [ao 1 (.tms 0 b0)]++(jx::eg [[Wd.turn.s]])))<=_;have h1:=sl1 w1;have h2:=sl1 (x:=[Wd.turn.s]) (c:=5) (by decide+kernel);rw[aa,aa,az,aa,show(dq).length=4 by decide+kernel,show(jx).length=4 by decide+kernel]
  omega
 have w3:ax (ao 3 (.tms 9 [.whn 0 [.tms 0 b0] [.row (.lg .turn)]]))<=700:=by
  show ax (j3::nw 9::eg [ao 2 (.whn 0 [.tms 0 b0] [.row (.lg .turn)])])<=_;have h1:=sl1 w2;rw[aa,aa,show(j3).length=5 by decide+kernel]
  omega
 have w4:ax (aQ 3 [.tms 9 [.whn 0 [.tms 0 b0] [.row (.lg .turn)]]])<=8000:=Nat.le_trans (sl1 w3) (by decide);obtain⟨Δ4,pl4⟩:=av k4;refine dQ ro (k:=k-1) (G:=[hand h (m+cR 2+cR 0+1)]) (F:=F2) nofun o4 w4 (.t pl4) s4 zj λHf zk=>?_
 right;rename_i pe Hg zl;have ok0:iQ 3 []:=⟨by decide,λi hi=>nomatch hi⟩;have tn:ax (aQ 3 [])<=8000:=by show ax [bR,aR]<=_;decide+kernel
 refine dQ ro (k:=k-1) (G:=[pt pe (wl []),hand h (m+cR 2+cR 0+1)]) (F:=F2) (b:=[]) nofun ok0 tn .e .nil zl λHh zm=>?_
 right;have eS:=jv ok0;rw[pT]at eS;refine iu ro (k:=k-1) (G:=[pt pe (wl []),hand h (m+cR 2+cR 0+1)]) (F:=F2) nofun (by decide+kernel) eS zm ?_;rw[pD ok0];intro l9 vs9 Δ9 Hi okb9 al9 zn;have e9:vs9=[]:=length_eq_zero_iff.mp al9.1;subst e9;right;rename_i p9 Hj zo;refine eq_nil (zo.get .k1) zo.at ((zo.pull .k1).ne) ?_;exact q _
end
def AW {y:V}(s:Sep O H)(r:dn (pt a (wl xs)) (pt a (wl (xs.take i.toNat++y::xs.drop i.toNat))) O Γ')(h0:0<=i)(h1:i<=xs.length)(hl:xs.length<=10000)(h:∀ H',Sep Γ' H'->Q wf H'):t6 .insert a xs [v4 i,y] H Q:=by unfold t6;exact⟨i,y,rfl,h0,h1,hl,h _ (s.put r rfl)⟩
abbrev D9:jo->jo
 | .cons (.ife _ a _) _=>a
 |_=>.nil
section
variable {h:Addr}{D:Ends}{E:St->XK}{x u2 u3:Option V}{m:Int}
def A3 (ro:Ro K R)(hk:26<=k)(hm:m<=100000000000)(z:Sep [hand h m] H)
  (q:∀ v H',Sep [hand h (m+10000000000)] H'->D.nx [x,some (v0 h),u2,v,none,none] H'):
  wB (D9 (c8 2 jU.body)) ⟨tab,R,ae tab R (k-1),true⟩ D E [x,some (v0 h),u2,u3,none,none] H:=by
 have hc2:cst 2=15+2*(100*1000):=rfl;right;refine o5 (n:=23) (by decide) (λD ys H=>∃ (rs:List Rw) (Δ:List ar),(∀ r ∈ rs,r.ok)/\bN (cg Δ 0) ys (rs.map Itm.row)/\Sep (pt D (wl ys)::hand h (m+10*(ys.length:Int))::Δ) H) (λD hD=>⟨[],[],(λr hr=>nomatch hr),.nil,?_⟩) (λD ys H hy hI=>?_) (λp ys H hly hI=>?_)
 .exact(ay ((z.new (o:=wl []) hD).pull .k1) (by simp)).pull .k1
 .obtain⟨rs,Δ,okr,al,z1⟩:=hI;right;refine qb nofun (z1.pull .k1) nofun (by decide) (by decide) λt r H2 ok z2=>?_
  left;refine n8 z2 (by walk_at "ar") λp2 H3 z3=>?_
  refine oY.mk (z3.get .k3) nofun ⟨rs++[r],tu p2 [v6 (Str.ofString "deed"),v0 t]::tu t r.tl::Δ,λx hx=>?_,?_,?_⟩
  .rcases mem_append.mp hx with hx|hx
   .exact okr x hx
   .rw[mem_singleton.mp hx];exact ok
  .rw[ge];exact(al.map λv i=>cg.mono λA h=>f8 _ (f8 _ h)).snoc ⟨p2,t,rfl,lw,f8 _ lw⟩
  .have z4:=(z3.toT.pull (A:=pt D (wl ys)) .k3).set (o':=wl (ys++[v0 p2])) rfl;have z5:Sep (hand h (m+10*(ys.length:Int)+10)::pt D (wl (ys++[v0 p2]))::tu p2 [v6 (Str.ofString "deed"),v0 t]::tu t r.tl::Δ) _:=z4.sub (.cons .k3 (.cons .e (.cons .e (.cons .e .refl))));exact(ay z5 (by rw[db,gt];omega)).pull .k1
 obtain⟨rs,F,okr,al,z1⟩:=hI;have hys:=al.1;rw[cr]at hys;rw[hly]at z1 hys;right;refine⟨_,_,rfl,z1.at,?_⟩;right;refine la (O:=pt p (wl ys)::F) nofun (z1.pull .k1) nofun (by decide) (by decide) λj H2 j0 j1 z2=>?_
 right;rename_i rm H3 z3;have hdp:(2:Int)=4-((2:Nat):Int):=by decide
 refine FC 2 (k:=k-1) (G:=[pt p (wl ys)]) (F:=F) (h:=h) (m:=m+10*((23:Nat):Int)+1) (r:=9) nofun (by decide) (by decide) nofun (z3.sub (.cons .k1 (.cons .e (.cons .e .refl)))) λv i r' Δ H4 r0 r1 oki hti si z4=>?_
 obtain⟨jn,rfl⟩:=sw j0;left;refine⟨_,z4.get .k2,AW z4 .k2 nofun nofun nofun λH5 z5=>?_⟩;rw[ss]at z5;have sJ:bN (cg (Δ++F) 2) (ys.take jn++v::ys.drop jn) ((rs.map Itm.row).take jn++i::(rs.map Itm.row).drop jn):=(al.map λv i h=>(cg.mono (λA=>jp Δ) (pB (pB h)))).ins si;have hbi:∀ y ∈ (rs.map Itm.row).take jn++i::(rs.map Itm.row).drop jn,a9 2 y/\ax (ao 2 y)<=600:=λy hy=>by
  have rw':∀ y ∈ rs.map Itm.row,a9 2 y/\ax (ao 2 y)<=600:=λy hy=>by
   obtain⟨r,hr,rfl⟩:=List.mem_map.mp hy;exact⟨okr r hr,Nat.le_trans (ph (okr r hr)) (by decide)⟩
  rcases mem_append.mp hy with hy|hy
  .exact rw' y (List.mem_of_mem_take hy)
  .rcases mo.mp hy with rfl|hy
   .exact⟨oki,by omega⟩
   .exact rw' y (List.mem_of_mem_drop hy)
 have hbl:((rs.map Itm.row).take jn++i::(rs.map Itm.row).drop jn).length=24:=by
  rw[db,length_cons,dL,lf,cr]
  omega
 have hbt:ax (aQ 2 ((rs.map Itm.row).take jn++i::(rs.map Itm.row).drop jn))<=7000:=by
  rw[cS];have h1:∀ r ∈ rs,ax (ao 2 (.row r))<=50:=λr hr=>ph (okr r hr)
  have app:∀ (a c:List (List Str)),ax (aE (a++c))<=ax (aE a)+ax (aE c)+2:=λa c=>by
   cases a with
   |nil=>show ax (aE c)<=_;omega
   |cons x r=>
    cases c with
    |nil=>rw[append_nil];omega
    |cons y s=>
     show ax (x++((r++y::s).map λy=>bq::y).flatten)<=ax (x++(r.map λy=>bq::y).flatten)+ax (y++(s.map λy=>bq::y).flatten)+2;rw[ge,List.flatten_append,map_cons,flatten_cons,az,az,az,az,az,aa,show(bq).length=1 by decide+kernel]
     omega
  have part:∀ l:List Itm,(∀ y ∈ l,y ∈ rs.map Itm.row)->l.length<=23->ax (aE (l.map (ao 2)))<=1300:=λl hl hn=>by
   have:=AG (l:=l.map (ao 2)) (c:=50) λx hx=>by
    obtain⟨y,hy,rfl⟩:=List.mem_map.mp hx;obtain⟨r,hr,rfl⟩:=List.mem_map.mp (hl y hy);exact h1 r hr
   rw[cr]at this
   omega
  have p1:=part _ (λy hy=>List.mem_of_mem_take hy) (by rw[dL,cr];omega:((rs.map Itm.row).take jn).length<=23);have p2:=part _ (λy hy=>List.mem_of_mem_drop hy) (by rw[lf,cr];omega:((rs.map Itm.row).drop jn).length<=23);have a1:=app (((rs.map Itm.row).take jn).map (ao 2)) ((i::(rs.map Itm.row).drop jn).map (ao 2));have a2:=app [ao 2 i] (((rs.map Itm.row).drop jn).map (ao 2));have a3:ax (aE [ao 2 i])=ax (ao 2 i):=by show ax (ao 2 i++[])=_;rw[append_nil]
  rw[<-ge]at a1;have a4:([ao 2 i]++((rs.map Itm.row).drop jn).map (ao 2))=(i::(rs.map Itm.row).drop jn).map (ao 2):=rfl;rw[a4]at a2
  omega
 generalize ((rs.map Itm.row).take jn++i::(rs.map Itm.row).drop jn)=b at sJ hbi hbl hbt;generalize ys.take jn++v::ys.drop jn=us at sJ z5;have ok2:iQ 2 b:=⟨by omega,λy hy=>(hbi y hy).1⟩;have ok3:iQ 3 b:=⟨by omega,λy hy=>Cv (hbi y hy).1⟩;have e3:aQ 3 b=aQ 2 b:=by show eg (b.map (ao 3))=eg (b.map (ao 2));rw[List.map_congr_left λy hy=>CG (hbi y hy).1]
 have z6:Sep ([hand h (m+10*((23:Nat):Int)+1+cst 2)]++((pt p (wl us)::Δ)++F)) H5:=z5.sub (.cons .e (.cons .k1 (.drop .refl)));have hs3:bN (cg ((pt p (wl us)::Δ)++F) 3) us b:=sJ.map λv i h=>cg.mono (λA h=>f8 _ h) (pB h)
 right;refine dQ ro (k:=k-1) (b:=b) nofun ok3 (by rw[e3];omega) (.t .e) hs3 z6 λH6 z7=>?_
 right;rename_i t H7 z8 L4 H8 z9;have z10:Sep ([pt L4 (wl [v0 t]),hand h (m+10*((23:Nat):Int)+1+cst 2)]++((tu t [v6 (Str.ofString "times"),v4 2,v0 p]::pt p (wl us)::Δ)++F)) H8:=(z9.pull .k1).toT.sub (.cons .k1 (.cons .k1 (.cons .e .refl)));have okt:iQ 3 [.tms 2 b]:=⟨pi rfl,λj hj=>by rw[mem_singleton.mp hj];exact⟨by decide,ok2⟩⟩;have hst:bN (cg ((tu t [v6 (Str.ofString "times"),v4 2,v0 p]::pt p (wl us)::Δ)++F) 3) [v0 t] [.tms 2 b]:=bN.snoc .nil ⟨t,p,us,rfl,lw,f8 _ lw,sJ.map λv i h=>cg.mono (λA h=>f8 _ (f8 _ h)) h⟩;have htt:ax (aQ 3 [.tms 2 b])<=8000:=by
  show ax (bR::(((j3::nw 2::aQ 2 b)++[])++[aR]))<=_;have n2:(nw 2).length<=11:=(ff (i:=2) (by decide)).1;rw[append_nil,aa,az,aa,aa,aa,show(bR).length=1 by decide+kernel,show(aR).length=1 by decide+kernel,show(j3).length=5 by decide+kernel,show ax []=0 from rfl]
  omega
 refine dQ ro (k:=k-1) (b:=[.tms 2 b]) nofun okt htt .e hst z10 λH9 z11=>?_
 right;exact q _ H9 (ay (z11.sub (Γ':=[hand h (m+10*((23:Nat):Int)+1+cst 2)]) (.cons .k1 .nil)) nofun)
end
def BY (ro:Ro K R)(hk:26<=k):∀ vs H Q E,hU K 63 vs H Q E->ae tab R k 74 vs H Q E:=by
 rintro vs H Q E ⟨a,is,rfl,hS,h63,hQ⟩;delta jU;right;rw[<-ro.hK]at hS;refine BA nofun Sep.nil hS h63 (λh H1 z1=>?_);right;refine lS (n:=4) (λj U H=>∃ u2 u3,U=[some (v0 a),some (v0 h),u2,u3,none,none]/\Sep [hand h (1000000000*(j:Int))] H) ?_ ?_ ?_
 .exact⟨_,_,rfl,z1⟩
 .rintro j U H hj ⟨u2,u3,rfl,z⟩;exact Bc (k:=k) ro hk nofun z λv H' z'=>⟨_,_,rfl,ay z' nofun⟩
 .rintro U H ⟨u2,u3,rfl,z⟩;right;refine la nofun z nofun (by decide) (by decide) λr H2 r0 r1 z2=>?_
  left;refine b6 rfl rfl ?_;left;refine gQ (λg=>?_) (λg=>?_)
  .refine A3 (k:=k) ro hk (m:=5000000000) nofun (ay z2 nofun) λv H3 z3=>?_
   exact wx (k:=k) ro hk nofun z3 hQ
  .exact wx (k:=k) ro hk (m:=5000000000) nofun (ay z2 nofun) hQ
def uV (ro:Ro K R):∀ vs H Q E,hU K 63 vs H Q E->ae tab R 26 74 vs H Q E:=BY ro (s0 _)
end
def walk {l:W.OpenLaw}{q:Program}{loose:List Str}{XP:(Str->Option Value)->Heap->Prop}{YP:World->Heap->Prop}{d:DefRec}{K:Params->W.Frag}(hn:l.most=some 63)(hdf:d.params.defaults=[])
    (hY:∀ (w:World) (h:Heap),YP w h->(K w.params).In h)
    (F:∀ (w:World) (mg:HE) (fa:Addr) (h:Heap),(K w.params).In h->h.Ns mainGlobals mg->mg d.name=some (.ref fa)->
      ∃ fd:FuncData,(∀ (s:Shared) (u:Value),BindsTo s fd ⟨[u],[]⟩ [("_law_script",u)])/\∀ base:Heap,(K w.params).In base->base.Ns mainGlobals mg->cF l.prog w (K w.params) mg base (vJ l.prog w) 52 fa fd ["_law_script"] (hU (K w.params) 63)):
    W.WalkO q loose XP YP l.row.toRowW d [] (λf vs=>PySem.call f vs):=
  L2.xt (n:=63) (k:=52) (x:="_law_script") (CX:=λw=>vJ l.prog w) (sp:=λw=>hU (K w.params) 63) hn (by decide) hdf ⟨rfl,by decide,by decide⟩ hY F (λ_ _ a ns hl _ hS=>⟨a,ns,rfl,hS,hl,λ_=>rfl⟩) λ_ _ _ _ _ z=>vn z
abbrev GB:List (Str×V):=[("BOUND",.int 1000000000),("MOST_HOPPED",.int 24),("LONGEST_NAME",.int 8),("MOST_FIGURES",.int 10),("MOST_TIMES",.int 9),("MOST_ITEMS",.int 24),("DEEPEST",.int 4),("LETTERS",.str "abcdefghijklmnopqrstuvwxyz"),("FIGURES",.str "0123456789"),("NAMES",.ref 80)]
def GP (p:Params):L3.yP (K0 p) tab FA Gk GB=true:=by kernel_rfl
def Hl (p:Params):L3.jF (K0 p) tab FA 0 tab.fns=true:=by kernel_rfl
end My
open PySem PySem.W PyProof.Rows
set_option maxRecDepth 100000 in
set_option maxHeartbeats 0 in
theorem PySem.Challenge.cw_haulbell_k91_blocks_written_holds : PySem.Challenge.rw_haulbell_k91_blocks_written.Holds := by
  refine holds_law My.Ep fun said=>?_
  refine W.holds_open (loose:=My.tU) (N:=14466)
    (q:=My.mQ My.pr)
    (Yf:=fun s=>My.E3.map s.heap.get?)
    (Ya:=fun w=>(My.K0 w.params).map fun p=>some p.2)
    (Xt:=fun s=>xlAt (My.mQ My.pr) [] s&&recOk PySem.Challenge.rw_haulbell_k91_blocks_written.row.records s)
    (XP:=XL (My.mQ My.pr) [])
    (YP:=InK My.K0) My.Dx
    (InK.of (as:=My.E3) fun _=>by kernel_rfl) InK.keeps
    (fun s e=>xl_of s (Bool.and_eq_true_iff.mp e).1)
    XL.keeps (by rfl) (by rfl) (by rfl)
    (fun s e=>recFacts_of (Bool.and_eq_true_iff.mp e).2)
    (by rfl) (by assumption) (by decide+kernel)
    ⟨rfl,rfl,rfl,rfl,rfl,by decide+kernel⟩ ?hw ?hc
  case hw=>w_witness2
  refine My.walk (l:=PySem.Challenge.rw_haulbell_k91_blocks_written) rfl rfl (fun w h Y=>Y) ?F
  case F=>
    intro w mg fa h KX G hmg;exact L3.yj KX G hmg (T:=My.tab) (fs:=My.FA) (cs:=My.Gk) (gs:=My.GB) (d:=My.jU) (fl:=74) (k:=26) (My.GP _) (My.Hl _) (by kernel_rfl) rfl rfl rfl (My.uV ⟨rfl,by kernel_rfl,by kernel_rfl,by kernel_rfl,by kernel_rfl,by kernel_rfl,by kernel_rfl,by kernel_rfl,by kernel_rfl,by kernel_rfl,⟨80,by kernel_rfl,L3.BJ (by kernel_rfl)⟩⟩)
