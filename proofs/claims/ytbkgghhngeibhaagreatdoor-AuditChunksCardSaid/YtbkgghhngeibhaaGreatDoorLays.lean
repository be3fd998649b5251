/-
  A plain datum (integers in structs and arrays) tells the cells that it was read from: for package-level tables. Conditions: the type's layout, a closed fact.
  The package-level table of the fields, out of the row's condition: its cells. Conditions: the row's own.
-/
import Derived.JoinedTies
import Derived.Lib.Hide
import Derived.Lib.LaidTab
import Derived.Lib.Walk
import Derived.MakeChecks
import Derived.OpenShut
import Derived.RangeFuncNested
import Derived.Test.YtbkgghhngeibhaaGreatDoorChecked
import Derived.WalkLawsBesides
import Derived.WalkSpells
import Derived.Test.YtbkgghhngeibhaaGreatDoorRows
import Derived.Test.YtbkgghhngeibhaaGreatDoorFrame
namespace Go.Proofs.YtbkgghhngeibhaaGreatDoor
section
open Go.ChangeShapes

mutual
def flatD {H:Type}:DataW H->List Value
 | .lit (.int k n)=>[.int k n]
 | .lit (.float k n)=>[.float k n]
 | .agg ds=>flatAll ds
 | _=>[]
def flatAll {H:Type}:List (DataW H)->List Value
 | []=>[]
 | d::r=>flatD d++flatAll r
end

def gapless (P:Program) (f:TypeId->Bool):Nat->List Field->Nat->Bool
 | off,[],total=>off==total
 | off,x::r,total=>x.offset==off&&f x.type&&gapless P f (off+P.cellsOf x.type) r total
def plainB (P:Program):Nat->TypeId->Bool
 | 0,_=>false
 | k+1,t =>
  match P.underlying t with
  | some (.int _)=>true
  | some (.float _)=>true
  | some (.array n e)=>P.cellsOf t==n*P.cellsOf e&&plainB P k e
  | some (.struct fs)=>gapless P (plainB P k) 0 fs.toList (P.cellsOf t)
  | _=>false

section
variable {H:Type} {enc:TypeId × Value->H} {P:Program} {w:World} {base:Nat} {spare:Nat->Bool} {held:Bool}

theorem mapM_flat {α:Type} {f:α->Option (DataW H × List MemPlace)} {g:α->List Value}:∀ (l:List α) (xs:List (DataW H × List MemPlace)),l.mapM f=some xs->(∀ i∈l,∀ y,f i=some y->flatD y.1=g i)->flatAll (xs.map (·.1))=l.flatMap g:=by
 intro l
 induction l with
 | nil=>intro xs h _;simp at h;subst h;simp[flatAll]
 | cons a l ih =>
  intro xs h hg
  rw[List.mapM_cons]at h
  simp only[bind,Option.bind_eq_some_iff,pure,Option.some.injEq]at h
  obtain⟨y,hy,ys,hys,rfl⟩:=h
  rw[List.map_cons,flatAll,List.flatMap_cons,hg a (by simp) y hy,ih ys hys (fun i hi=>hg i (by simp[hi]))]

theorem range_seg (cs:List Value) (c:Nat):∀ n,(List.range n).flatMap (fun i=>(cs.drop (i*c)).take c)=cs.take (n*c):=by
 intro n
 induction n with
 | zero=>simp
 | succ n ih=>rw[List.range_succ,List.flatMap_append,ih,Nat.succ_mul,List.take_add];simp

theorem flat_of_trod:∀ (fuel k:Nat) (t:TypeId) (cs:List Value) (d:DataW H) (p:List MemPlace),plainB P k t=true->DataW.trod enc P w base spare held fuel t cs=some (d,p)->flatD d=cs:=by
 intro fuel
 induction fuel with
 | zero=>intro k t cs d p _ h;simp[DataW.trod]at h
 | succ fuel ih =>
  intro k t cs d p hp h
  cases k with
  | zero=>simp[plainB]at hp
  | succ k =>
   unfold plainB at hp
   unfold DataW.trod at h
   split at hp
   ·rename_i kk hu
    rw[hu]at h
    cases cs with
    | nil=>simp at h
    | cons c cs =>
     cases cs with
     | cons _ _=>simp at h
     | nil =>
      cases c <;> simp at h
      obtain⟨⟨rfl,_⟩,rfl,rfl⟩:=h
      simp[flatD]
   ·rename_i kk hu
    rw[hu]at h
    cases cs with
    | nil=>simp at h
    | cons c cs =>
     cases cs with
     | cons _ _=>simp at h
     | nil =>
      cases c <;> simp at h
      obtain⟨⟨rfl,_⟩,rfl,rfl⟩:=h
      simp[flatD]
   ·rename_i n e hu
    rw[hu]at h
    simp only[Bool.and_eq_true,beq_iff_eq]at hp
    simp only at h
    split at h
    ·rename_i hl
     simp only[Option.map_eq_some_iff,Prod.mk.injEq]at h
     obtain⟨xs,hx,rfl,_⟩:=h
     rw[flatD,mapM_flat (g:=fun i=>(cs.drop (i*P.cellsOf e)).take (P.cellsOf e)) _ xs hx (fun i _ y hy=>ih k e _ y.1 y.2 hp.2 hy),range_seg,<-hp.1,<-hl,List.take_length]
    simp at h
   ·rename_i fs hu
    rw[hu]at h
    simp only at h
    split at h
    ·rename_i hl
     simp only[Option.map_eq_some_iff,Prod.mk.injEq]at h
     obtain⟨xs,hx,rfl,_⟩:=h
     have key:∀ (l:List Field) (off:Nat) (xs:List (DataW H × List MemPlace)),gapless P (plainB P k) off l (P.cellsOf t)=true ->
       (l.mapM fun f=>DataW.trod enc P w base spare held fuel f.type ((cs.drop f.offset).take (P.cellsOf f.type)))=some xs->flatAll (xs.map (·.1))=cs.drop off:=by
      intro l
      induction l with
      | nil =>
       intro off xs hg hm
       simp[gapless]at hg
       simp at hm
       subst hm
       simp[flatAll]
       omega
      | cons f l ihl =>
       intro off xs hg hm
       simp only[gapless,Bool.and_eq_true,beq_iff_eq]at hg
       rw[List.mapM_cons]at hm
       simp only[bind,Option.bind_eq_some_iff,pure,Option.some.injEq]at hm
       obtain⟨y,hy,ys,hys,rfl⟩:=hm
       have h1:=ih k f.type _ y.1 y.2 hg.1.2 hy
       have h2:=ihl _ ys hg.2 hys
       rw[List.map_cons,flatAll,h1,h2,hg.1.1,<-List.drop_drop]
       exact List.take_append_drop _ _
     rw[flatD,key fs.toList 0 xs hp hx,List.drop_zero]
    simp at h
   simp at hp
end

theorem listed_reads {P:Program} {w:World}:∀ {l:List (String × DataW Unit)} {ps:List MemPlace},DataW.LaidVars P w l ps->∀ {n:String} {d:DataW Unit},(n,d)∈l ->
  ∃ g t cs fuel p,P.globalNamed n=some g/\(P.globals[g]?).map (·.type)=some t/\w.var? P n=some cs/\DataW.trod (fun _=>()) P w 0 (fun _=>true) false fuel t cs.toList=some (d,p)
 | [],_,_,_,_,hm=>by cases hm
 | _::_,_,h,_,_,hm=>by
  obtain⟨g,t,cs,fuel,p,q,h1,h2,h3,h4,hr,_⟩:=h
  cases hm with
  | head=>exact⟨g,t,cs,fuel,p,h1,h2,h3,h4⟩
  | tail _ hm=>exact listed_reads hr hm
theorem cells_of_laid {P:Program} {w:World} {l:List (String × DataW Unit)} {n:String} {d:DataW Unit} {g:Nat} (k:Nat) (h:laidMetH P l w) (hp:(l.all fun x=>x.2.handleName?.isNone)=true) (hm:(n,d)∈l)
  (hg:P.globalNamed n=some g) (hb:((P.globals[g]?).map (·.type)).any (plainB P k)=true) (i:Nat):w.cell? ⟨g,i,none⟩=(flatD d)[i]?:=by
 rw[MakeChecks.laidMetH_plain _ _ _ hp]at h
 obtain⟨g',t',cs,fuel,p,h1,h2,h3,h4⟩:=listed_reads h.choose_spec.1 hm
 obtain rfl:=Option.some.inj (hg.symm.trans h1)
 rw[h2]at hb
 have hb:plainB P k t'=true:=hb
 rw[World.var?_cell h1 h3 i,flat_of_trod fuel k _ _ _ p hb h4,Array.getElem?_toList]
end
section
open Go.RowKit Go.ChangeShapes

def TabAt (w:World):Prop:=∀ i v,(flatD (H:=Unit) Rows.laid_sharecore_field_fields)[i]?=some v->w.cell? ⟨0,i,none⟩=some v
theorem TabAt.off {w w':World} (h:TabAt w) (ho:Off (fun _=>False) w w'):TabAt w':=fun i v hv=>ho.cell (h i v hv) (fun c=>c)
theorem tab_of_laid {w : World} (h : laidMetH Tryz.prog [("sharecore/field.fields",Rows.laid_sharecore_field_fields)] w) : TabAt w := fun i v hv =>
 (cells_of_laid 8 h (by kernel_rfl) (List.mem_singleton.2 rfl) (by kernel_rfl) (by kernel_rfl) i).trans hv
end
end Go.Proofs.YtbkgghhngeibhaaGreatDoor
