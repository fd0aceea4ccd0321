import Derived.Test.YtabmnkddmdffkaaGreatDoorARWr
namespace Go.Proofs.YtabmnkddmdffkaaGreatDoor.Arc
open Go.RowKit Go.Maps Go.Shelf
end Go.Proofs.YtabmnkddmdffkaaGreatDoor.Arc
